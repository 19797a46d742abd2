/-
  Contracts: wire.Check, and the document's CheckPacket.
-/
import Derived.Test.YtnpaejknoipicafGreatRows
import Derived.WalkKit
import Derived.WalkSpells
import Derived.WalkLawsBesides
import Derived.Handy
import Derived.Test.YtnpaejknoipicafGreatWirePlain
import Derived.Test.YtnpaejknoipicafGreatRefBetween
namespace Go.Proofs.YtnpaejknoipicafGreat
open Go.RowKit

set_option maxHeartbeats 1000000 in
theorem check_any (p : Pk) (w : World) :
    Calls Tryz.prog 137 #[p.val] w fun e w' => e = .returned (.int .i64 p.chk) ∧ w' = w.alloc (.cells p.cells 89) := by
  obtain ⟨seq, time, f, e, k, t⟩ := p
  simp only [Pk.val, Pk.cells, Pk.chk]
  by_cases h1 : seq < 0
  · rw [if_pos h1]
    go_enter Tryz.func137, Tryz.ntmps137
    go_wp2
    go_ret
    exact ⟨rfl, rfl⟩
  rw [if_neg h1]
  by_cases h2 : 65535 < seq
  · rw [if_pos h2]
    go_enter Tryz.func137, Tryz.ntmps137
    go_wp2
    go_ret
    exact ⟨rfl, rfl⟩
  rw [if_neg h2]
  by_cases h3 : time < 0
  · rw [if_pos h3]
    go_enter Tryz.func137, Tryz.ntmps137
    go_wp2
    go_ret
    exact ⟨rfl, rfl⟩
  rw [if_neg h3]
  by_cases h4 : 1000000 < time
  · rw [if_pos h4]
    go_enter Tryz.func137, Tryz.ntmps137
    go_wp2
    go_ret
    exact ⟨rfl, rfl⟩
  rw [if_neg h4]
  by_cases h5 : 8 < (t.size : Int)
  · rw [if_pos h5]
    go_enter Tryz.func137, Tryz.ntmps137
    go_wp2
    go_ret
    exact ⟨rfl, rfl⟩
  rw [if_neg h5]
  cases k
  · go_enter Tryz.func137, Tryz.ntmps137
    go_wp2
    go_ret
    exact ⟨rfl, rfl⟩
  · cases f
    · go_enter Tryz.func137, Tryz.ntmps137
      go_wp2
      go_ret
      exact ⟨rfl, rfl⟩
    · go_enter Tryz.func137, Tryz.ntmps137
      go_wp2
      go_ret
      exact ⟨rfl, rfl⟩

set_option maxHeartbeats 1000000 in
theorem refCheck_any (p : Pk) (w : World) :
    Calls Tryz.prog 118 #[p.val] w fun e w' => e = .returned (.int .i64 p.chk) ∧ w' = w.alloc (.cells p.cells 89) := by
  obtain ⟨seq, time, f, e, k, t⟩ := p
  simp only [Pk.val, Pk.cells, Pk.chk]
  cases hs : Cn.betB seq 0 65535
  · have hx : (if seq < 0 then (3 : Int) else if 65535 < seq then 3 else if time < 0 then 3 else if 1000000 < time then 3 else if 8 < (t.size : Int) then 2 else if k && !f then 4 else 0) = 3 := by
      simp only [Cn.betB, Bool.and_eq_false_iff, decide_eq_false_iff_not] at hs
      split
      · rfl
      · rw [if_pos (by omega)]
    rw [hx]
    go_enter Tryz.func118, Tryz.ntmps118
    go_wp2_with (go_at_call 50; refine (between_any _ _ _ _).mono ?_; rintro e w' ⟨rfl, rfl⟩)
    go_ret
    exact ⟨rfl, rfl⟩
  have hs1 : 0 ≤ seq ∧ seq ≤ 65535 := by simpa [Cn.betB] using hs
  rw [if_neg (by omega), if_neg (by omega)]
  cases ht : Cn.betB time 0 1000000
  · have hx : (if time < 0 then (3 : Int) else if 1000000 < time then 3 else if 8 < (t.size : Int) then 2 else if k && !f then 4 else 0) = 3 := by
      simp only [Cn.betB, Bool.and_eq_false_iff, decide_eq_false_iff_not] at ht
      split
      · rfl
      · rw [if_pos (by omega)]
    rw [hx]
    go_enter Tryz.func118, Tryz.ntmps118
    go_wp2_with (go_at_call 50; refine (between_any _ _ _ _).mono ?_; rintro e w' ⟨rfl, rfl⟩)
    go_ret
    exact ⟨rfl, rfl⟩
  have ht1 : 0 ≤ time ∧ time ≤ 1000000 := by simpa [Cn.betB] using ht
  rw [if_neg (by omega), if_neg (by omega)]
  by_cases h5 : 8 < (t.size : Int)
  · rw [if_pos h5]
    go_enter Tryz.func118, Tryz.ntmps118
    go_wp2_with (go_at_call 50; refine (between_any _ _ _ _).mono ?_; rintro e w' ⟨rfl, rfl⟩)
    go_ret
    exact ⟨rfl, rfl⟩
  rw [if_neg h5]
  cases k
  · go_enter Tryz.func118, Tryz.ntmps118
    go_wp2_with (go_at_call 50; refine (between_any _ _ _ _).mono ?_; rintro e w' ⟨rfl, rfl⟩)
    go_ret
    exact ⟨rfl, rfl⟩
  · cases f
    · go_enter Tryz.func118, Tryz.ntmps118
      go_wp2_with (go_at_call 50; refine (between_any _ _ _ _).mono ?_; rintro e w' ⟨rfl, rfl⟩)
      go_ret
      exact ⟨rfl, rfl⟩
    · go_enter Tryz.func118, Tryz.ntmps118
      go_wp2_with (go_at_call 50; refine (between_any _ _ _ _).mono ?_; rintro e w' ⟨rfl, rfl⟩)
      go_ret
      exact ⟨rfl, rfl⟩

end Go.Proofs.YtnpaejknoipicafGreat
