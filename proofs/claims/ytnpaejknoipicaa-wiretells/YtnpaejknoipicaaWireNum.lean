/-
  Contract: wire.sumOf of three flags.
-/
import Derived.Test.YtnpaejknoipicaaWireCheck
import Derived.Test.YtnpaejknoipicaaSlices
import Derived.Test.YtnpaejknoipicaaGrow
namespace Go.Proofs.Ytnpaejknoipicaa
open Go.RowKit

def Pk.flags (f e k : Bool) : Int := (if f then 1 else 0) + (if e then 2 else 0) + (if k then 4 else 0)

set_option maxHeartbeats 1000000 in
theorem sumOf_any (f e k : Bool) (b c : Nat) (w : World) (h0 : w.cell? ⟨b, 0, none⟩ = some (.bool f)) (h1 : w.cell? ⟨b, 1, none⟩ = some (.bool e)) (h2 : w.cell? ⟨b, 2, none⟩ = some (.bool k)) :
    Calls Try.prog 24 #[.slice (some ⟨b, 0, none⟩) 3 c] w fun r w' => r = .returned (.int .i64 (Pk.flags f e k)) ∧ w = w' := by
  cases f <;> cases e <;> cases k
  all_goals
    go_enter Try.func24, Try.ntmps24
    go_wp2
    go_rounds 4
    go_ret
    exact ⟨rfl, rfl⟩

theorem Try.infoU8 : (Try.prog.info? 5).map (fun i => (i.zero, i.size, i.bytes)) = some (some (.int .u8 0), 1, 1) := by kernel_rfl

end Go.Proofs.Ytnpaejknoipicaa
