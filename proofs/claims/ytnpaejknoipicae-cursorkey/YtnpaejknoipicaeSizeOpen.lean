/-
  Contract: the document's SizeOf, of an open group that may be empty.
-/
import Derived.Test.YtnpaejknoipicaeRefGroup
namespace Go.Proofs.Ytnpaejknoipicae
open Go.RowKit

set_option maxHeartbeats 2000000 in
theorem sizeOf_open (S : Nat → Prop) (v : Value) (l : List Fr) (w : World) (hv : FrsIn S w v l) (hG : l = [] ∨ gchk l = 0) :
    Calls Try.prog 29 #[.agg #[v]] w fun e w' => e = .returned (.int .i64 (szG l)) ∧ Below w.heap.size w w' := by
  rcases hG with rfl | hG
  · obtain ⟨ao, c, hva, h1, h2, hc⟩ := hv
    rw [List.length_nil] at hva
    subst hva
    go_enter Try.func29, Try.ntmps29
    go_wp2
    go_rounds 1
    go_ret
    exact ⟨rfl, by go_grown⟩
  · exact sizeOf_any S v l w hv hG

end Go.Proofs.Ytnpaejknoipicae
