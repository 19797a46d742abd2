/-
  Contract: switchbacklaw.slot.
-/
import Derived.Test.YtnpaejknoipicafRowAux
namespace Go.Proofs.Ytnpaejknoipicaf
open Go.RowKit

/-- the law's own slot -/
def lsk (n time : Int) (f e k : Bool) : Sk := ⟨n, ⟨n % 65536, time, f, e, k, ⟨#[116]⟩⟩⟩

set_option maxHeartbeats 400000 in
theorem lslot_any (n time : Int) (f e k : Bool) (w : World) (hn1 : 0 ≤ n) (hn2 : n ≤ 1000000000) :
    Calls Try.prog 31 #[.int .i64 n, .int .i64 time, .bool f, .bool e, .bool k] w fun r w' => r = .returned (lsk n time f e k).val ∧ Below w.heap.size w w' := by
  simp only [lsk, Sk.val]
  go_enter Try.func31, Try.ntmps31
  go_wp2
  exact bodyPost_ret (v := .agg #[.int .i64 n, .int .i64 (n % 65536), .int .i64 time, .bool f, .bool e, .bool k, .string ⟨#[116]⟩]) (by simp [results, Try.results31, go_sem]) rfl ⟨rfl, by go_grown⟩

end Go.Proofs.Ytnpaejknoipicaf
