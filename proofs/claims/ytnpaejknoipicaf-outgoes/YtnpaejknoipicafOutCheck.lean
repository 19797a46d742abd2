/-
  Plain facts of streams; contracts: out.Check, the document's CheckOut.
-/
import Derived.Test.YtnpaejknoipicafStay
namespace Go.Proofs.Ytnpaejknoipicaf
open Go.RowKit

def outE (l t s : Int) : Int := if l < 0 then 3 else if 1000000000 < l then 3 else if t < 0 then 3 else if 1000000 < t then 3 else if s < -1000000 then 3 else if 1000000 < s then 3 else 0
theorem outE_zero {l t s : Int} : outE l t s = 0 ↔ 0 ≤ l ∧ l ≤ 1000000000 ∧ 0 ≤ t ∧ t ≤ 1000000 ∧ -1000000 ≤ s ∧ s ≤ 1000000 := by
  unfold outE
  repeat' split
  all_goals first | omega | (constructor <;> intro h <;> omega)

set_option maxHeartbeats 2000000 in
set_option maxRecDepth 100000 in
theorem outCheck_any (l t s : Int) (w : World) :
    Calls Try.prog 12 #[.agg #[.int .i64 l, .int .i64 t, .int .i64 s]] w fun e w' => e = .returned (.int .i64 (outE l t s)) ∧ Below w.heap.size w w' := by
  obtain ⟨E, hE⟩ : ∃ E, E = outE l t s := ⟨_, rfl⟩
  have HE : Hid (E = if l < 0 then 3 else if 1000000000 < l then 3 else if t < 0 then 3 else if 1000000 < t then 3 else if s < -1000000 then 3 else if 1000000 < s then 3 else 0) := hE
  have HB : Hid (Below w.heap.size w (w.alloc (.cells #[.int .i64 l, .int .i64 t, .int .i64 s] 23))) := (Below.refl _ _).alloc (Nat.le_refl _) _
  rw [← hE]
  clear hE
  by_cases h0 : l < 0
  · have e : E = 3 := by rw [HE.out, if_pos h0]
    subst e
    go_enter Try.func12, Try.ntmps12
    go_wp2
    go_ret
    exact ⟨rfl, HB.out⟩
  by_cases h1 : 1000000000 < l
  · have e : E = 3 := by rw [HE.out, if_neg h0, if_pos h1]
    subst e
    go_enter Try.func12, Try.ntmps12
    go_wp2
    go_ret
    exact ⟨rfl, HB.out⟩
  by_cases h2 : t < 0
  · have e : E = 3 := by rw [HE.out, if_neg h0, if_neg h1, if_pos h2]
    subst e
    go_enter Try.func12, Try.ntmps12
    go_wp2
    go_ret
    exact ⟨rfl, HB.out⟩
  by_cases h3 : 1000000 < t
  · have e : E = 3 := by rw [HE.out, if_neg h0, if_neg h1, if_neg h2, if_pos h3]
    subst e
    go_enter Try.func12, Try.ntmps12
    go_wp2
    go_ret
    exact ⟨rfl, HB.out⟩
  by_cases h4 : s < -1000000
  · have e : E = 3 := by rw [HE.out, if_neg h0, if_neg h1, if_neg h2, if_neg h3, if_pos h4]
    subst e
    go_enter Try.func12, Try.ntmps12
    go_wp2
    go_ret
    exact ⟨rfl, HB.out⟩
  by_cases h5 : 1000000 < s
  · have e : E = 3 := by rw [HE.out, if_neg h0, if_neg h1, if_neg h2, if_neg h3, if_neg h4, if_pos h5]
    subst e
    go_enter Try.func12, Try.ntmps12
    go_wp2
    go_ret
    exact ⟨rfl, HB.out⟩
  have e : E = 0 := by rw [HE.out, if_neg h0, if_neg h1, if_neg h2, if_neg h3, if_neg h4, if_neg h5]
  subst e
  go_enter Try.func12, Try.ntmps12
  go_wp2
  go_ret
  exact ⟨rfl, HB.out⟩

set_option maxHeartbeats 2000000 in
set_option maxRecDepth 100000 in
theorem refCheckOut_any (l t s : Int) (w : World) :
    Calls Try.prog 8 #[.agg #[.int .i64 l, .int .i64 t, .int .i64 s]] w fun e w' => e = .returned (.int .i64 (outE l t s)) ∧ Below w.heap.size w w' := by
  obtain ⟨E, hE⟩ : ∃ E, E = outE l t s := ⟨_, rfl⟩
  have HE : Hid (E = if l < 0 then 3 else if 1000000000 < l then 3 else if t < 0 then 3 else if 1000000 < t then 3 else if s < -1000000 then 3 else if 1000000 < s then 3 else 0) := hE
  have HB : Hid (Below w.heap.size w (w.alloc (.cells #[.int .i64 l, .int .i64 t, .int .i64 s] 23))) := (Below.refl _ _).alloc (Nat.le_refl _) _
  rw [← hE]
  clear hE
  by_cases h0 : l < 0
  · have e : E = 3 := by rw [HE.out, if_pos h0]
    have d0 : decide (0 ≤ l) = false := decide_eq_false (by omega)
    subst e
    go_enter Try.func8, Try.ntmps8
    go_wp2
    go_ret
    exact ⟨rfl, HB.out⟩
  have d0 : decide (0 ≤ l) = true := decide_eq_true (by omega)
  by_cases h1 : 1000000000 < l
  · have e : E = 3 := by rw [HE.out, if_neg h0, if_pos h1]
    have d1 : decide (l ≤ 1000000000) = false := decide_eq_false (by omega)
    subst e
    go_enter Try.func8, Try.ntmps8
    go_wp2
    go_ret
    exact ⟨rfl, HB.out⟩
  have d1 : decide (l ≤ 1000000000) = true := decide_eq_true (by omega)
  by_cases h2 : t < 0
  · have e : E = 3 := by rw [HE.out, if_neg h0, if_neg h1, if_pos h2]
    have d2 : decide (0 ≤ t) = false := decide_eq_false (by omega)
    subst e
    go_enter Try.func8, Try.ntmps8
    go_wp2
    go_ret
    exact ⟨rfl, HB.out⟩
  have d2 : decide (0 ≤ t) = true := decide_eq_true (by omega)
  by_cases h3 : 1000000 < t
  · have e : E = 3 := by rw [HE.out, if_neg h0, if_neg h1, if_neg h2, if_pos h3]
    have d3 : decide (t ≤ 1000000) = false := decide_eq_false (by omega)
    subst e
    go_enter Try.func8, Try.ntmps8
    go_wp2
    go_ret
    exact ⟨rfl, HB.out⟩
  have d3 : decide (t ≤ 1000000) = true := decide_eq_true (by omega)
  by_cases h4 : s < -1000000
  · have e : E = 3 := by rw [HE.out, if_neg h0, if_neg h1, if_neg h2, if_neg h3, if_pos h4]
    have d4 : decide (-1000000 ≤ s) = false := decide_eq_false (by omega)
    subst e
    go_enter Try.func8, Try.ntmps8
    go_wp2
    go_ret
    exact ⟨rfl, HB.out⟩
  have d4 : decide (-1000000 ≤ s) = true := decide_eq_true (by omega)
  by_cases h5 : 1000000 < s
  · have e : E = 3 := by rw [HE.out, if_neg h0, if_neg h1, if_neg h2, if_neg h3, if_neg h4, if_pos h5]
    have d5 : decide (s ≤ 1000000) = false := decide_eq_false (by omega)
    subst e
    go_enter Try.func8, Try.ntmps8
    go_wp2
    go_ret
    exact ⟨rfl, HB.out⟩
  have d5 : decide (s ≤ 1000000) = true := decide_eq_true (by omega)
  have e : E = 0 := by rw [HE.out, if_neg h0, if_neg h1, if_neg h2, if_neg h3, if_neg h4, if_neg h5]
  subst e
  go_enter Try.func8, Try.ntmps8
  go_wp2
  go_ret
  exact ⟨rfl, HB.out⟩

end Go.Proofs.Ytnpaejknoipicaf
