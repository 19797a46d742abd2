/-
  'switchbacklaw.CountRound' returns true, whatever it is handed.
-/
import Derived.Test.YtaabikjdockclabCountRef
namespace Go.Proofs.Ytaabikjdockclab
open Go.RowKit

set_option maxHeartbeats 1000000 in
theorem countRound_any (n by' : Int) (w : World) :
    Calls Try.prog 3 #[.int .i64 n, .int .i64 by'] w fun e w' => e = .returned (.bool true) ∧ Below w.heap.size w w' := by
  cases hb : Cn.isNB n
  · go_enter Try.func3, Try.ntmps3
    go_wp2_with (first
      | (go_at_call 4; refine (countBegun_any _).mono ?_; rintro e w1 ⟨rfl, hbel⟩)
      | (go_at_call 5; refine (refIsN_any _ _).mono ?_; rintro e w' ⟨rfl, rfl⟩))
    go_ret
    exact ⟨rfl, by assumption⟩
  · obtain ⟨hn1, hn2⟩ := Cn.isNB_iff.1 hb
    by_cases h1 : by' < -32767
    · go_enter Try.func3, Try.ntmps3
      go_wp2_with (first
        | (go_at_call 4; refine (countBegun_any _).mono ?_; rintro e w1 ⟨rfl, hbel⟩)
        | (go_at_call 5; refine (refIsN_any _ _).mono ?_; rintro e w' ⟨rfl, rfl⟩))
      go_ret
      exact ⟨rfl, by assumption⟩
    · by_cases h2 : 32768 < by'
      · go_enter Try.func3, Try.ntmps3
        go_wp2_with (first
          | (go_at_call 4; refine (countBegun_any _).mono ?_; rintro e w1 ⟨rfl, hbel⟩)
          | (go_at_call 5; refine (refIsN_any _ _).mono ?_; rintro e w' ⟨rfl, rfl⟩))
        go_ret
        exact ⟨rfl, by assumption⟩
      · cases hb2 : Cn.isNB (n + by')
        · go_enter Try.func3, Try.ntmps3
          go_wp2_with (first
            | (go_at_call 4; refine (countBegun_any _).mono ?_; rintro e w1 ⟨rfl, hbel⟩)
            | (go_at_call 5; refine (refIsN_any _ _).mono ?_; rintro e w' ⟨rfl, rfl⟩))
          go_ret
          exact ⟨rfl, by assumption⟩
        · have hr := Cn.isNB_iff.1 hb2
          have hW : Cn.wrN (n + by') = (n + by') % 65536 := by simp [Cn.wrN, hb2]
          have hWE : Cn.wrE (n + by') = 0 := by simp [Cn.wrE, hb2]
          have hraw : Cn.raw n ((n + by') % 65536) = n + by' := Cn.raw_uniq _ _ _ rfl (by omega) (by omega)
          have hok : Cn.okB n ((n + by') % 65536) = true := by rw [Cn.okB_iff, hraw]; omega
          have hU : Cn.uwN n ((n + by') % 65536) = n + by' := by rw [(Cn.uw_ok hok).2, hraw]
          have hUE : Cn.uwE n ((n + by') % 65536) = 0 := (Cn.uw_ok hok).1
          clear hraw hok
          go_enter Try.func3, Try.ntmps3
          go_wp2_with (first
            | (go_at_call 4; refine (countBegun_any _).mono ?_; rintro e w1 ⟨rfl, hbel⟩)
            | (go_at_call 5; refine (refIsN_any _ _).mono ?_; rintro e w' ⟨rfl, rfl⟩)
            | (go_at_call 6; refine (wrap_any _ _).mono ?_; rintro e w' ⟨rfl, rfl⟩)
            | (go_at_call 7; refine (unwrap_any _ _ _).mono ?_; rintro e w' ⟨rfl, rfl⟩))
          go_ret
          exact ⟨rfl, by assumption⟩

end Go.Proofs.Ytaabikjdockclab
