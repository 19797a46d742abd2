/-
  Contract: the first region of the store keeper's add: what the frames of the open group and one more make.
-/
import Derived.Test.YtnpaejknoipicaeStoreTrim
import Derived.Test.YtnpaejknoipicaeStoreAll
import Derived.Test.YtnpaejknoipicaeRefGrow
import Derived.Test.YtnpaejknoipicaeRegBox
import Derived.Test.YtnpaejknoipicaeGroupAll
namespace Go.Proofs.Ytnpaejknoipicae
open Go.RowKit

theorem FrsIn.two {S : Nat → Prop} {w : World} {b : Nat} {f : Fr} {pv : Value} (hb : Blk w b #[.int .i64 f.time, .bool f.key, pv] 39) (hS : S b) (hp : StrsIn S w pv f.parts) : FrsIn S w (.slice (some ⟨b, 0, none⟩) 1 1) [f] := FrsIn.one hb hS hp

/-- what is known behind each step -/
def AddI (w1 : World) (f : Fr) (pa : Option Addr) (pn pc : Nat) (oa : Option Addr) (lo oc : Nat) (X : List Fr) (C : List (List Fr)) (R : List Fr) (E : Int) (s : Nat) (r : Nat → Value) (b : Option Nat) (w' : World) : Prop :=
  Below w1.heap.size w1 w' ∧ (s ≤ 4 → ∀ g, b = some g → w1.heap.size ≤ g ∧ Blk w' g #[.slice none 0 0] 34) ∧ match s with
    | 0 => True
    | 1 => ∃ g1, r 0 = .slice (some ⟨g1, 0, none⟩) 1 1 ∧ Blk w' g1 #[.int .i64 f.time, .bool f.key, .slice pa pn pc] 39
    | 2 => ∃ g1 g2, r 1 = .slice (some ⟨g2, 0, none⟩) 2 2 ∧ Blk w' g1 #[.int .i64 f.time, .bool f.key, .slice pa pn pc] 39 ∧ Blk w' g2 #[.slice oa lo oc, .slice (some ⟨g1, 0, none⟩) 1 1] 32
    | 3 => FrsIn (fun _ => True) w' (r 2) X
    | 4 => ∃ ca cc fa fc, r 3 = .tuple #[.slice ca C.length cc, .agg #[.slice fa R.length fc], .int .i64 E] ∧ GrsIn (fun x => b ≠ some x ∧ w1.heap.size ≤ x) w' (.slice ca C.length cc) C ∧ FrsIn (fun x => b ≠ some x ∧ w1.heap.size ≤ x) w' (.slice fa R.length fc) R
    | _ => ∃ g ca cc fa fc, b = some g ∧ w1.heap.size ≤ g ∧ r 3 = .tuple #[.slice ca C.length cc, .agg #[.slice fa R.length fc], .int .i64 E] ∧ GrsIn (fun x => b ≠ some x ∧ w1.heap.size ≤ x) w' (.slice ca C.length cc) C ∧ FrsIn (fun x => b ≠ some x ∧ w1.heap.size ≤ x) w' (.slice fa R.length fc) R ∧ Blk w' g #[.slice fa R.length fc] 34

theorem AddI.box {w1 : World} {f : Fr} {pa : Option Addr} {pn pc : Nat} {oa : Option Addr} {lo oc : Nat} {X : List Fr} {C : List (List Fr)} {R : List Fr} {E : Int} {s : Nat} {r : Nat → Value} {w' : World} (h : AddI w1 f pa pn pc oa lo oc X C R E s r none w') : AddI w1 f pa pn pc oa lo oc X C R E s r (some w'.heap.size) (w'.alloc (.cells #[.slice none 0 0] 34)) := by
  obtain ⟨h1, _, h3⟩ := h
  refine ⟨h1.alloc h1.size _, fun _ g hg => by injection hg with hg; subst hg; exact ⟨h1.size, Blk.new _ _ _⟩, ?_⟩
  match s, h3 with
  | 0, _ => trivial
  | 1, ⟨g1, e1, e2⟩ => exact ⟨g1, e1, e2.alloc _⟩
  | 2, ⟨g1, g2, e1, e2, e3⟩ => exact ⟨g1, g2, e1, e2.alloc _, e3.alloc _⟩
  | 3, h => exact FrsIn.alloc h _
  | 4, ⟨ca, cc, fa, fc, e1, e2, e3⟩ => exact ⟨ca, cc, fa, fc, e1, (e2.mono fun g hg h => ⟨fun e => (by injection e with e; omega), h.2⟩).alloc _, (e3.mono fun g hg h => ⟨fun e => (by injection e with e; omega), h.2⟩).alloc _⟩
  | _ + 5, ⟨g, _, _, _, _, e, _⟩ => cases e

end Go.Proofs.Ytnpaejknoipicae
