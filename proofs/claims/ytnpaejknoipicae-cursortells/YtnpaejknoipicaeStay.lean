/-
  What stands in a world, and in each one that is as it was below: one fact for all of them.
-/
import Derived.Test.YtnpaejknoipicaeNest
import Derived.Test.YtnpaejknoipicaeBlocks
namespace Go.Proofs.Ytnpaejknoipicae
open Go.RowKit

def Stay (w : World) (P : World → Prop) : Prop := ∀ w', Below w.heap.size w w' → P w'
theorem Stay.now {w : World} {P : World → Prop} (h : Stay w P) : P w := h w (Below.refl _ _)
theorem Stay.step {w w' : World} {P : World → Prop} (h : Stay w P) (hb : Below w.heap.size w w') : Stay w' P := fun w'' h2 => h w'' (hb.trans (h2.mono hb.size))
theorem Stay.alloc {w : World} {P : World → Prop} (h : Stay w P) (o : Obj) : Stay (w.alloc o) P := h.step ((Below.refl _ w).alloc (Nat.le_refl _) _)
theorem Stay.and {w : World} {P Q : World → Prop} (h : Stay w P) (k : Stay w Q) : Stay w (fun U => P U ∧ Q U) := fun w' hb => ⟨h w' hb, k w' hb⟩
theorem Stay.imp {w : World} {P Q : World → Prop} (h : Stay w P) (k : ∀ U, P U → Q U) : Stay w Q := fun w' hb => k w' (h w' hb)
theorem Blk.stay {w : World} {b : Nat} {C : Array Value} {t : TypeId} (h : Blk w b C t) : Stay w (fun U => Blk U b C t) := fun _ hb => h.below hb h.lt
theorem FrsIn.stay {S : Nat → Prop} {w : World} {v : Value} {l : List Fr} (h : FrsIn S w v l) : Stay w (fun U => FrsIn S U v l) := fun _ hb => h.below hb
theorem StrsIn.stay {S : Nat → Prop} {w : World} {v : Value} {l : List ByteArray} (h : StrsIn S w v l) : Stay w (fun U => StrsIn S U v l) := fun _ hb => h.below hb
theorem GrsIn.stay {S : Nat → Prop} {w : World} {v : Value} {L : List (List Fr)} (h : GrsIn S w v L) : Stay w (fun U => GrsIn S U v L) := fun _ hb => h.below hb
theorem below_stay {B : Nat} {a w : World} (h : Below B a w) (hB : B ≤ w.heap.size) : Stay w (fun U => Below B a U) := fun _ hb => h.trans (hb.mono hB)
theorem below_stay0 (w : World) : Stay w (fun U => Below w.heap.size w U) := below_stay (Below.refl _ _) (Nat.le_refl _)

theorem Stay.hid {w : World} {P : World → Prop} (h : Stay w P) : Hid (Stay w P) := h
theorem Stay.go {w w' : World} {P : World → Prop} (h : Hid (Stay w P)) (hb : Below w.heap.size w w') : Hid (Stay w' P) := Stay.step h hb
theorem Stay.allocE {w W : World} {P : World → Prop} {o : Obj} (h : Stay w P) (e : W = w.alloc o) : Hid (Stay W P) := by subst e; exact h.alloc _
theorem Blk.newE {w W : World} {C : Array Value} {t : TypeId} (e : W = w.alloc (.cells C t)) : Blk W w.heap.size C t := by subst e; exact Blk.new _ _ _
theorem FrsIn.allocE {S : Nat → Prop} {w W : World} {v : Value} {l : List Fr} {o : Obj} (h : FrsIn S w v l) (e : W = w.alloc o) : FrsIn S W v l := by subst e; exact h.alloc _
theorem GrsIn.allocE {S : Nat → Prop} {w W : World} {v : Value} {L : List (List Fr)} {o : Obj} (h : GrsIn S w v L) (e : W = w.alloc o) : GrsIn S W v L := by subst e; exact h.alloc _
theorem StrsIn.allocE {S : Nat → Prop} {w W : World} {v : Value} {l : List ByteArray} {o : Obj} (h : StrsIn S w v l) (e : W = w.alloc o) : StrsIn S W v l := by subst e; exact h.alloc _

end Go.Proofs.Ytnpaejknoipicae
