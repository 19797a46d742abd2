/-
  Contracts of package count's calls.
-/
import Derived.Test.YtgmnhbmjnllhhacRows
import Derived.WalkKit
import Derived.WalkSpells
import Derived.WalkLawsBesides
import Derived.Test.YtgmnhbmjnllhhacCountPlain
namespace Go.Proofs.Ytgmnhbmjnllhhac
open Go.RowKit

theorem ret2_int {k l : IntKind} {a b c d : Int} (h : a = b) (g : c = d) : Ending.returned (.tuple #[.int k a, .int l c]) = .returned (.tuple #[.int k b, .int l d]) := by rw [h, g]

set_option maxHeartbeats 400000 in
theorem isNumber_any (n : Int) (w : World) :
    Calls Try.prog 68 #[.int .i64 n] w fun e w' => e = .returned (.bool (Cn.isNB n)) ∧ w = w' := by
  by_cases h1 : 65536 ≤ n
  · by_cases h2 : n ≤ 1000000000
    · rw [Cn.isNB_true h1 h2]
      go_enter Try.func68, Try.ntmps68
      go_wp2
      go_ret
      exact ⟨rfl, rfl⟩
    · rw [Cn.isNB_false (.inr (by omega))]
      go_enter Try.func68, Try.ntmps68
      go_wp2
      go_ret
      exact ⟨rfl, rfl⟩
  · rw [Cn.isNB_false (.inl (by omega))]
    go_enter Try.func68, Try.ntmps68
    go_wp2
    go_ret
    exact ⟨rfl, rfl⟩

set_option maxHeartbeats 400000 in
theorem wrap_any (n : Int) (w : World) :
    Calls Try.prog 52 #[.int .i64 n] w fun e w' => e = .returned (.tuple #[.int .i64 (Cn.wrN n), .int .i64 (Cn.wrE n)]) ∧ w = w' := by
  cases hb : Cn.isNB n
  · have hE : Cn.wrE n = 3 := by simp [Cn.wrE, hb]
    have hN : Cn.wrN n = 0 := by simp [Cn.wrN, hb]
    rw [hE, hN]
    clear hE hN
    go_enter Try.func52, Try.ntmps52
    go_wp2_with (go_at_call 68; refine (isNumber_any _ _).mono ?_; rintro e w' ⟨rfl, rfl⟩)
    go_ret2
    exact ⟨rfl, rfl⟩
  · have hE : Cn.wrE n = 0 := by simp [Cn.wrE, hb]
    have hN : Cn.wrN n = n % 65536 := by simp [Cn.wrN, hb]
    have hr := Cn.isNB_iff.1 hb
    obtain ⟨hr1, hr2⟩ := hr
    rw [hE, hN]
    clear hE hN
    go_enter Try.func52, Try.ntmps52
    go_wp2_with (go_at_call 68; refine (isNumber_any _ _).mono ?_; rintro e w' ⟨rfl, rfl⟩)
    go_ret2
    exact ⟨rfl, rfl⟩

end Go.Proofs.Ytgmnhbmjnllhhac
