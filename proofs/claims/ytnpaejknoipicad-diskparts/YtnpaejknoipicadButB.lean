/-
  Memory that is as it was below a number, but for one block.
-/
import Derived.Test.YtnpaejknoipicadBlocks
namespace Go.Proofs.Ytnpaejknoipicad
open Go.RowKit

/-- all below base is as it was, but block B -/
structure But (B base : Nat) (w w' : World) : Prop where
  os : w'.os = w.os
  tape : w'.tape = w.tape
  output : w'.output = w.output
  size : w.heap.size ≤ w'.heap.size
  block : ∀ k, k < base → k ≠ B → w'.heap[k]? = w.heap[k]?
theorem But.refl (B base : Nat) (w : World) : But B base w w := ⟨rfl, rfl, rfl, Nat.le_refl _, fun _ _ _ => rfl⟩
theorem But.trans {B base : Nat} {a b c : World} (h : But B base a b) (k : But B base b c) : But B base a c :=
  ⟨k.os.trans h.os, k.tape.trans h.tape, k.output.trans h.output, Nat.le_trans h.size k.size, fun j hj hn => (k.block j hj hn).trans (h.block j hj hn)⟩
theorem But.of_below {B base : Nat} {a b : World} (h : Below base a b) : But B base a b := ⟨h.os, h.tape, h.output, h.size, fun j hj _ => h.block j hj⟩
theorem But.set {B base : Nat} {a b : World} (h : But B base a b) (i : Nat) (v : Value) : But B base a (b.setCell ⟨B, i, none⟩ v) :=
  ⟨h.os, h.tape, h.output, by simpa using h.size, fun j hj hn => (Below.heap_setCell b ⟨B, i, none⟩ v j hn).trans (h.block j hj hn)⟩
theorem But.toBelow {B base c : Nat} {a b : World} (h : But B base a b) (h1 : c ≤ base) (h2 : c ≤ B) : Below c a b := ⟨h.os, h.tape, h.output, h.size, fun j hj => h.block j (by omega) (by omega)⟩
theorem Blk.but {B base : Nat} {w w' : World} {b : Nat} {C : Array Value} {t : TypeId} (h : Blk w b C t) (hk : But B base w w') (h1 : b < base) (h2 : b ≠ B) : Blk w' b C t := (hk.block b h1 h2).trans h

theorem But.alloc {B base : Nat} {a b : World} (h : But B base a b) (hb : base ≤ b.heap.size) (o : Obj) : But B base a (b.alloc o) := h.trans (But.of_below ((Below.refl base b).alloc hb o))
theorem But.below {B base : Nat} {a b c : World} (h : But B base a b) (hb : base ≤ b.heap.size) (k : Below b.heap.size b c) : But B base a c := h.trans (But.of_below (k.mono hb))

end Go.Proofs.Ytnpaejknoipicad
