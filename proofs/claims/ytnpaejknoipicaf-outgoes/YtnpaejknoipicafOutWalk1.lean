/-
  Contracts: the sender's isNew, timeOf, turnTo.
-/
import Derived.Test.YtnpaejknoipicafOutCheck
import Derived.BigQuiet
namespace Go.Proofs.Ytnpaejknoipicaf
open Go.RowKit

set_option maxHeartbeats 2000000 in
set_option maxRecDepth 100000 in
theorem isNew_any (M : Nat) (l t s : Int) (w : World) (hM : Blk w M #[.int .i64 l, .int .i64 t, .int .i64 s] 65) :
    Calls Try.prog 24 #[.pointer (some ⟨M, 0, none⟩)] w fun e w' => e = .returned (.bool (l == 0)) ∧ w = w' := by
  obtain ⟨k0, k1, k2⟩ := hM.three
  go_enter Try.func24, Try.ntmps24
  go_wp2_with fail
  go_ret
  exact ⟨rfl, rfl⟩

set_option maxHeartbeats 2000000 in
set_option maxRecDepth 100000 in
theorem timeOf_any (M : Nat) (l t s ft : Int) (fk : Bool) (pa : Option Addr) (pn pc : Nat) (w : World) (hM : Blk w M #[.int .i64 l, .int .i64 t, .int .i64 s] 65) (hf0 : 0 ≤ ft) (hf1 : ft ≤ 1000000) (hs0 : -3000000 ≤ s) (hs1 : s ≤ 3000000) :
    Calls Try.prog 50 #[.pointer (some ⟨M, 0, none⟩), .agg #[.int .i64 ft, .bool fk, .slice pa pn pc]] w fun e w' => e = .returned (.int .i64 (ft + s)) ∧ Below w.heap.size w w' := by
  obtain ⟨k0, k1, k2⟩ := hM.three
  have lM := hM.lt
  have HB : Hid (Below w.heap.size w (w.alloc (.cells #[.int .i64 ft, .bool fk, .slice pa pn pc] 26))) := (Below.refl _ _).alloc (Nat.le_refl _) _
  go_enter Try.func50, Try.ntmps50
  go_wp2_with fail
  go_quiet (fail)
  go_wp2_with fail
  go_ret
  exact ⟨rfl, below_drewN HB.out _⟩

set_option maxHeartbeats 2000000 in
set_option maxRecDepth 100000 in
theorem turnTo_any (M : Nat) (l t s ft : Int) (fk : Bool) (pa : Option Addr) (pn pc : Nat) (w : World) (hM : Blk w M #[.int .i64 l, .int .i64 t, .int .i64 s] 65) (hf0 : 0 ≤ ft) (hf1 : ft ≤ 1000000) (ht0 : 0 ≤ t) (ht1 : t ≤ 1000000) :
    Calls Try.prog 25 #[.pointer (some ⟨M, 0, none⟩), .agg #[.int .i64 ft, .bool fk, .slice pa pn pc]] w fun e w' => e = .returned (.tuple #[]) ∧ Blk w' M #[.int .i64 l, .int .i64 t, .int .i64 (t + 10 - ft)] 65 ∧ Kept [M] w w' := by
  obtain ⟨k0, k1, k2⟩ := hM.three
  have lM := hM.lt
  have fM := hM.free
  have HV : Hid (Blk ((w.setCell ⟨M, 2, none⟩ (.int .i64 (t + 10 - ft))).alloc (.cells #[.int .i64 ft, .bool fk, .slice pa pn pc] 26)).drew M #[.int .i64 l, .int .i64 t, .int .i64 (t + 10 - ft)] 65 ∧ Kept [M] w ((w.setCell ⟨M, 2, none⟩ (.int .i64 (t + 10 - ft))).alloc (.cells #[.int .i64 ft, .bool fk, .slice pa pn pc] 26)).drew) :=
    ⟨Blk.drew (Blk.alloc (by have := hM.set 2 (.int .i64 (t + 10 - ft)); simpa using this) _), (((Kept.refl [M] w).setCell (by simp) _).alloc _).drew⟩
  clear hM
  go_enter Try.func25, Try.ntmps25
  go_wp2_with fail
  go_region
  go_wp2_with fail
  go_end0
  exact ⟨rfl, HV.out.1, HV.out.2⟩

end Go.Proofs.Ytnpaejknoipicaf
