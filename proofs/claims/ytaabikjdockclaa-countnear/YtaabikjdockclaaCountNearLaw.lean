/-
  'switchbacklaw.CountNear' returns true, whatever it is handed.
-/
import Derived.Test.YtaabikjdockclaaCountRef
namespace Go.Proofs.Ytaabikjdockclaa
open Go.RowKit

set_option maxHeartbeats 1000000 in
theorem countNear_any (last seq : Int) (w : World) :
    Calls Try.prog 8 #[.int .i64 last, .int .i64 seq] w fun e w' => e = .returned (.bool true) ∧ Below w.heap.size w w' := by
  cases hok : Cn.okB last seq
  · have hU := (Cn.uw_no hok).2
    have hUE := (Cn.uw_no hok).1
    go_enter Try.func8, Try.ntmps8
    go_wp2_with (first
      | (go_at_call 21; refine (countBegun_any _).mono ?_; rintro e w1 ⟨rfl, hbel⟩)
      | (go_at_call 17; refine (unwrap_any _ _ _).mono ?_; rintro e w' ⟨rfl, rfl⟩))
    go_ret
    exact ⟨rfl, by assumption⟩
  · have hU := (Cn.uw_ok hok).2
    have hUE := (Cn.uw_ok hok).1
    obtain ⟨⟨hl1, hl2⟩, hs1, hs2, hr1, hr2⟩ := Cn.okB_iff.1 hok
    obtain ⟨hn1, hn2, hn3⟩ := Cn.raw_near last seq hs1 hs2
    have hW : Cn.wrN (Cn.raw last seq) = seq := by simp [Cn.wrN, Cn.isNB_true hr1 hr2, hn1]
    have hWE : Cn.wrE (Cn.raw last seq) = 0 := by simp [Cn.wrE, Cn.isNB_true hr1 hr2]
    clear hn1
    go_enter Try.func8, Try.ntmps8
    go_wp2_with (first
      | (go_at_call 21; refine (countBegun_any _).mono ?_; rintro e w1 ⟨rfl, hbel⟩)
      | (go_at_call 16; refine (wrap_any _ _).mono ?_; rintro e w' ⟨rfl, rfl⟩)
      | (go_at_call 17; refine (unwrap_any _ _ _).mono ?_; rintro e w' ⟨rfl, rfl⟩))
    go_ret
    exact ⟨rfl, by assumption⟩

end Go.Proofs.Ytaabikjdockclaa
