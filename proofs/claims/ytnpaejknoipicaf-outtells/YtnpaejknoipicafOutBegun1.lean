/-
  What is known within a region that asks out.Send of one picture.
-/
import Derived.Test.YtnpaejknoipicafOutSend2
import Derived.Test.YtnpaejknoipicafRegBoxes
import Derived.OneCell
namespace Go.Proofs.Ytnpaejknoipicaf
open Go.RowKit

structure SdI (w1 : World) (l t s : Int) (P : List Pk) (E : Int) (f : Fr) (st : Nat) (r : Nat → Value) (b : Nat → Option Nat) (w' : World) : Prop where
  bel : Below w1.heap.size w1 w'
  seven : ∀ p, b 7 = some p → w1.heap.size ≤ p ∧ p < w'.heap.size ∧ (st ≤ 2 → Blk w' p #[.int .i64 0, .int .i64 0, .int .i64 0] 23) ∧ (3 ≤ st → Blk w' p #[.int .i64 l, .int .i64 t, .int .i64 s] 23)
  has7 : 3 ≤ st → ¬ b 7 = none
  one : st = 1 → ∃ pa pc, r 0 = .agg #[.int .i64 f.time, .bool f.key, .slice pa f.parts.length pc] ∧ StrsIn (fun _ => True) w' (.slice pa f.parts.length pc) f.parts
  two : 2 ≤ st → ∃ va vc, r 1 = .tuple #[.agg #[.int .i64 l, .int .i64 t, .int .i64 s], .slice va P.length vc, .int .i64 E] ∧ w'.ownsRow w1.heap.size 38 6 (.slice va P.length vc) P.length (pkCells P) ∧ ∀ p, b 7 = some p → (Value.slice va P.length vc).ownBlock ≠ some p

section
variable {w1 : World} {l t s : Int} {P : List Pk} {E : Int} {f : Fr} {r : Nat → Value} {b : Nat → Option Nat} {w' w'' : World}
theorem SdI.call0 (h : SdI w1 l t s P E f 0 r b w') (hb : Below w'.heap.size w' w'') (pa : Option Addr) (pc : Nat) (hp : StrsIn (fun _ => True) w'' (.slice pa f.parts.length pc) f.parts) : SdI w1 l t s P E f 1 (updR r 0 (.agg #[.int .i64 f.time, .bool f.key, .slice pa f.parts.length pc])) b w'' := by
  refine ⟨h.bel.trans (hb.mono h.bel.size), fun p hp => ?_, fun h => by omega, fun _ => ⟨pa, pc, updR_at _ _ _, hp⟩, fun h => by omega⟩
  obtain ⟨e1, e2, e3, e4⟩ := h.seven p hp
  have := e3 (by omega)
  exact ⟨e1, Nat.lt_of_lt_of_le e2 hb.size, fun _ => this.below hb this.lt, fun h => by omega⟩
theorem SdI.call1 (h : SdI w1 l t s P E f 1 r b w') (hb : Below w'.heap.size w' w'') (va : Option Addr) (vc : Nat) (ho : w''.ownsRow w'.heap.size 38 6 (.slice va P.length vc) P.length (pkCells P)) : SdI w1 l t s P E f 2 (updR r 1 (.tuple #[.agg #[.int .i64 l, .int .i64 t, .int .i64 s], .slice va P.length vc, .int .i64 E])) b w'' := by
  refine ⟨h.bel.trans (hb.mono h.bel.size), fun p hp => ?_, fun h => by omega, fun h => by omega, fun _ => ⟨va, vc, updR_at _ _ _, owns_le ho h.bel.size, fun p hp e => ?_⟩⟩
  · obtain ⟨e1, e2, e3, e4⟩ := h.seven p hp
    have := e3 (by omega)
    exact ⟨e1, Nat.lt_of_lt_of_le e2 hb.size, fun _ => this.below hb this.lt, fun h => by omega⟩
  · have := (h.seven p hp).2.1
    have := (ho.lt p e).1
    omega
theorem SdI.box {st : Nat} (h : SdI w1 l t s P E f st r b w') (hb : b 7 = none) : SdI w1 l t s P E f st r (updO b 7 w'.heap.size) (w'.alloc (.cells #[.int .i64 0, .int .i64 0, .int .i64 0] 23)) := by
  have hs : st ≤ 2 := by
    by_cases h3 : 3 ≤ st
    · exact absurd hb (h.has7 h3)
    · omega
  refine ⟨h.bel.alloc h.bel.size _, fun p hp => ?_, fun h => by omega, fun h0 => ?_, fun h0 => ?_⟩
  · simp [updO] at hp
    subst hp
    exact ⟨h.bel.size, by simp, fun _ => Blk.new _ _ _, fun h => by omega⟩
  · obtain ⟨pa, pc, e, q⟩ := h.one h0
    exact ⟨pa, pc, e, q.alloc _⟩
  · obtain ⟨va, vc, e, q, _⟩ := h.two h0
    refine ⟨va, vc, e, q.alloc _, fun p hp e => ?_⟩
    simp [updO] at hp
    subst hp
    have := (q.lt _ e).2
    omega
theorem SdI.put (h : SdI w1 l t s P E f 2 r b w') {p : Nat} (hp : b 7 = some p) (v : Value) : SdI w1 l t s P E f 3 (updR r 2 v) b (((w'.setCell ⟨p, 0, none⟩ (.int .i64 l)).setCell ⟨p, 1, none⟩ (.int .i64 t)).setCell ⟨p, 2, none⟩ (.int .i64 s)) := by
  obtain ⟨e1, e2, e3, _⟩ := h.seven p hp
  have kg := e3 (Nat.le_refl _)
  refine ⟨((h.bel.setCell e1 _).setCell e1 _).setCell e1 _, fun q hq => ?_, fun _ => by rw [hp]; simp, fun h => by omega, fun _ => ?_⟩
  · rw [hp] at hq
    injection hq with hq
    subst hq
    exact ⟨e1, by simpa using e2, fun h => by omega, fun _ => kg.put3 _ _ _⟩
  · obtain ⟨va, vc, e, q, hn⟩ := h.two (Nat.le_refl _)
    refine ⟨va, vc, by rw [updR_ne (by omega)]; exact e, ?_, hn⟩
    have := hn p hp
    exact ownsRow_setCell_other (ownsRow_setCell_other (ownsRow_setCell_other q this _) this _) this _
end

end Go.Proofs.Ytnpaejknoipicaf
