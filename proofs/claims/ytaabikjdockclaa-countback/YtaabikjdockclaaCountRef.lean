/-
  Contracts of the document's small calls on numbers, and of what every statement of count asks first.
-/
import Derived.Test.YtaabikjdockclaaCountAll
namespace Go.Proofs.Ytaabikjdockclaa
open Go.RowKit

def Cn.betB (n lo hi : Int) : Bool := decide (lo ≤ n) && decide (n ≤ hi)

set_option maxHeartbeats 400000 in
theorem between_any (n lo hi : Int) (w : World) :
    Calls Try.prog 29 #[.int .i64 n, .int .i64 lo, .int .i64 hi] w fun e w' => e = .returned (.bool (Cn.betB n lo hi)) ∧ w = w' := by
  by_cases h1 : lo ≤ n
  · have e : Cn.betB n lo hi = decide (n ≤ hi) := by simp [Cn.betB, h1]
    rw [e]; clear e
    go_enter Try.func29, Try.ntmps29
    go_wp2
    go_ret
    exact ⟨rfl, rfl⟩
  · have e : Cn.betB n lo hi = false := by simp [Cn.betB, h1]
    rw [e]; clear e
    go_enter Try.func29, Try.ntmps29
    go_wp2
    go_ret
    exact ⟨rfl, rfl⟩

theorem Cn.bet_isN (n : Int) : Cn.betB n 65536 1000000000 = Cn.isNB n := by
  simp [Cn.betB, Cn.isNB]

set_option maxHeartbeats 400000 in
theorem refIsN_any (n : Int) (w : World) :
    Calls Try.prog 19 #[.int .i64 n] w fun e w' => e = .returned (.bool (Cn.isNB n)) ∧ w = w' := by
  rw [← Cn.bet_isN]
  go_enter Try.func19, Try.ntmps19
  go_wp2_with (go_at_call 29; refine (between_any _ _ _ _).mono ?_; rintro e w' ⟨rfl, rfl⟩)
  go_ret
  exact ⟨rfl, rfl⟩

set_option maxHeartbeats 400000 in
theorem countBegun_any (w : World) :
    Calls Try.prog 21 #[] w fun e w' => e = .returned (.bool true) ∧ Below w.heap.size w w' := by
  have h1 : Cn.uwN 131071 3 = 131075 := by decide
  have h2 : Cn.uwE 131071 3 = 0 := by decide
  have h3 : Cn.uwN 131072 65535 = 131071 := by decide
  have h4 : Cn.uwE 131072 65535 = 0 := by decide
  have h5 : Cn.wrN 131075 = 3 := by decide
  have h6 : Cn.wrE 131075 = 0 := by decide
  have h7 : Cn.allE 65536 [5, 65535, 1] = 3 := by decide
  have h8 : Cn.allL 65536 [5, 65535, 1] = [] := by decide
  go_enter Try.func21, Try.ntmps21
  go_wp2_with (first
    | (go_at_call 17; refine (unwrap_any _ _ _).mono ?_; rintro e w' ⟨rfl, rfl⟩)
    | (go_at_call 16; refine (wrap_any _ _).mono ?_; rintro e w' ⟨rfl, rfl⟩))
  refine (all_any 65536 _ [5, 65535, 1] _ (by decide) (by exact Sl.new _ _ _ 3 1 3 rfl)).mono ?_
  rintro e w1 ⟨u, rfl, hown, hbel⟩
  rw [h8] at hown
  obtain ⟨a, c, rfl⟩ := (Sl.of_owns hown).len
  have hb2 := ((Below.refl _ w).alloc (Nat.le_refl _) _).trans (hbel.mono (by simp))
  clear hown hbel
  go_wp2
  go_ret
  exact ⟨rfl, hb2⟩

end Go.Proofs.Ytaabikjdockclaa
