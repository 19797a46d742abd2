/-
  Contracts of package pace's calls.
-/
import Derived.Test.YtfihnceeonffoadRows
import Derived.WalkKit
import Derived.WalkSpells
import Derived.WalkLawsBesides
import Derived.Handy
import Derived.Test.YtfihnceeonffoadPacePlain
namespace Go.Proofs.Ytfihnceeonffoad
open Go.RowKit

def Pc.inB (n lo hi : Int) : Bool := decide (lo ≤ n) && decide (n ≤ hi)

set_option maxHeartbeats 400000 in
theorem isWithin_any (n lo hi : Int) (w : World) :
    Calls Try.prog 83 #[.int .i64 n, .int .i64 lo, .int .i64 hi] w fun e w' => e = .returned (.bool (Pc.inB n lo hi)) ∧ w = w' := by
  by_cases h1 : lo ≤ n
  · have e : Pc.inB n lo hi = decide (n ≤ hi) := by simp [Pc.inB, h1]
    rw [e]; clear e
    go_enter Try.func83, Try.ntmps83
    go_wp2
    go_ret
    exact ⟨rfl, rfl⟩
  · have e : Pc.inB n lo hi = false := by simp [Pc.inB, h1]
    rw [e]; clear e
    go_enter Try.func83, Try.ntmps83
    go_wp2
    go_ret
    exact ⟨rfl, rfl⟩

set_option maxHeartbeats 400000 in
theorem isSpeed_any (n d : Int) (w : World) :
    Calls Try.prog 63 #[.int .i64 n, .int .i64 d] w fun e w' => e = .returned (.bool (Pc.inB n 1 100 && Pc.inB d 1 100)) ∧ w = w' := by
  cases h : Pc.inB n 1 100
  · go_enter Try.func63, Try.ntmps63
    go_wp2_with (go_at_call 83; refine (isWithin_any _ _ _ _).mono ?_; rintro e w' ⟨rfl, rfl⟩)
    go_ret
    exact ⟨rfl, rfl⟩
  · go_enter Try.func63, Try.ntmps63
    go_wp2_with (go_at_call 83; refine (isWithin_any _ _ _ _).mono ?_; rintro e w' ⟨rfl, rfl⟩)
    go_ret
    exact ⟨by simp, rfl⟩

def Pc.right (W M N D : Int) : Bool := Pc.inB W 0 1000000 && (Pc.inB M 0 1000000 && (Pc.inB N 1 100 && Pc.inB D 1 100))
theorem Pc.right_iff {W M N D : Int} : Pc.right W M N D = true ↔ 0 ≤ W ∧ W ≤ 1000000 ∧ 0 ≤ M ∧ M ≤ 1000000 ∧ 1 ≤ N ∧ N ≤ 100 ∧ 1 ≤ D ∧ D ≤ 100 := by
  simp [Pc.right, Pc.inB, and_assoc]

set_option maxHeartbeats 1000000 in
theorem isRight_any (W M N D : Int) (w : World) :
    Calls Try.prog 58 #[.agg #[.int .i64 W, .int .i64 M, .int .i64 N, .int .i64 D]] w fun e w' => e = .returned (.bool (Pc.right W M N D)) ∧ w' = w.alloc (.cells #[.int .i64 W, .int .i64 M, .int .i64 N, .int .i64 D] 100) := by
  unfold Pc.right
  cases h : Pc.inB W 0 1000000
  · go_enter Try.func58, Try.ntmps58
    go_wp2_with (first | (go_at_call 83; refine (isWithin_any _ _ _ _).mono ?_; rintro e w' ⟨rfl, rfl⟩) | (go_at_call 63; refine (isSpeed_any _ _ _).mono ?_; rintro e w' ⟨rfl, rfl⟩))
    go_ret
    exact ⟨rfl, rfl⟩
  cases h2 : Pc.inB M 0 1000000
  · go_enter Try.func58, Try.ntmps58
    go_wp2_with (first | (go_at_call 83; refine (isWithin_any _ _ _ _).mono ?_; rintro e w' ⟨rfl, rfl⟩) | (go_at_call 63; refine (isSpeed_any _ _ _).mono ?_; rintro e w' ⟨rfl, rfl⟩))
    go_ret
    exact ⟨rfl, rfl⟩
  go_enter Try.func58, Try.ntmps58
  go_wp2_with (first | (go_at_call 83; refine (isWithin_any _ _ _ _).mono ?_; rintro e w' ⟨rfl, rfl⟩) | (go_at_call 63; refine (isSpeed_any _ _ _).mono ?_; rintro e w' ⟨rfl, rfl⟩))
  go_ret
  exact ⟨by simp, rfl⟩

set_option maxHeartbeats 400000 in
theorem hasWall_any (W M N D x : Int) (w : World) :
    Calls Try.prog 59 #[.agg #[.int .i64 W, .int .i64 M, .int .i64 N, .int .i64 D], .int .i64 x] w fun e w' => e = .returned (.bool (Pc.inB x W 1000000)) ∧ w' = w.alloc (.cells #[.int .i64 W, .int .i64 M, .int .i64 N, .int .i64 D] 100) := by
  go_enter Try.func59, Try.ntmps59
  go_wp2_with (go_at_call 83; refine (isWithin_any _ _ _ _).mono ?_; rintro e w' ⟨rfl, rfl⟩)
  go_ret
  exact ⟨rfl, rfl⟩

set_option maxHeartbeats 400000 in
theorem hasMedia_any (W M N D x : Int) (w : World) :
    Calls Try.prog 61 #[.agg #[.int .i64 W, .int .i64 M, .int .i64 N, .int .i64 D], .int .i64 x] w fun e w' => e = .returned (.bool (Pc.inB x M 1000000)) ∧ w' = w.alloc (.cells #[.int .i64 W, .int .i64 M, .int .i64 N, .int .i64 D] 100) := by
  go_enter Try.func61, Try.ntmps61
  go_wp2_with (go_at_call 83; refine (isWithin_any _ _ _ _).mono ?_; rintro e w' ⟨rfl, rfl⟩)
  go_ret
  exact ⟨rfl, rfl⟩

set_option maxHeartbeats 2000000 in
theorem mediaAt_any (W M N D x : Int) (w : World) (h : Pc.right W M N D = true) (h1 : W ≤ x) (h2 : x ≤ 1000000) :
    Calls Try.prog 60 #[.agg #[.int .i64 W, .int .i64 M, .int .i64 N, .int .i64 D], .int .i64 x] w fun e w' => e = .returned (.int .i64 (Pc.med W M N D x)) ∧ w' = (w.alloc (.cells #[.int .i64 W, .int .i64 M, .int .i64 N, .int .i64 D] 100)).drew := by
  obtain ⟨a1, a2, a3, a4, a5, a6, a7, a8⟩ := Pc.right_iff.1 h
  have hD : ¬ D = 0 := by omega
  obtain ⟨p1, p2⟩ := Pc.mul_bound (a := x - W) (n := N) (A := 1000000) (B := 100) (by omega) (by omega) (by omega) (by omega)
  have q1 : 0 ≤ (x - W) * N / D := Int.ediv_nonneg p1 (by omega)
  have q2 : (x - W) * N / D ≤ (x - W) * N := Int.ediv_le_self _ p1
  have e1 : IntKind.i64.wrap (x - W) = x - W := by rw [IntKind.wrap_i64]; omega
  have e2 : IntKind.i64.wrap ((x - W) * N) = (x - W) * N := by rw [IntKind.wrap_i64]; omega
  have e3 : IntKind.i64.wrap (((x - W) * N).tdiv D) = (x - W) * N / D := by rw [Int.tdiv_eq_ediv_of_nonneg p1, IntKind.wrap_i64]; omega
  have e4 : IntKind.i64.wrap (M + (x - W) * N / D) = Pc.med W M N D x := by rw [IntKind.wrap_i64]; unfold Pc.med; omega
  clear h a1 a2 a3 a4 a5 a6 a7 a8 p1 p2 q1 q2 h1 h2
  go_enter Try.func60, Try.ntmps60
  go_wp2
  go_region
  go_wp2
  go_ret
  exact ⟨rfl, rfl⟩

set_option maxHeartbeats 2000000 in
theorem wallOf_any (W M N D x : Int) (w : World) (h : Pc.right W M N D = true) (h1 : M ≤ x) (h2 : x ≤ 1000000) :
    Calls Try.prog 62 #[.agg #[.int .i64 W, .int .i64 M, .int .i64 N, .int .i64 D], .int .i64 x] w fun e w' => e = .returned (.int .i64 (Pc.wal W M N D x)) ∧ w' = (w.alloc (.cells #[.int .i64 W, .int .i64 M, .int .i64 N, .int .i64 D] 100)).drew := by
  obtain ⟨a1, a2, a3, a4, a5, a6, a7, a8⟩ := Pc.right_iff.1 h
  have hN : ¬ N = 0 := by omega
  obtain ⟨p1, p2⟩ := Pc.mul_bound (a := x - M) (n := D) (A := 1000000) (B := 100) (by omega) (by omega) (by omega) (by omega)
  have q1 : 0 ≤ ((x - M) * D + N - 1) / N := Int.ediv_nonneg (by omega) (by omega)
  have q2 : ((x - M) * D + N - 1) / N ≤ (x - M) * D + N - 1 := Int.ediv_le_self _ (by omega)
  have e1 : IntKind.i64.wrap (x - M) = x - M := by rw [IntKind.wrap_i64]; omega
  have e2 : IntKind.i64.wrap ((x - M) * D) = (x - M) * D := by rw [IntKind.wrap_i64]; omega
  have e5 : IntKind.i64.wrap ((x - M) * D + N) = (x - M) * D + N := by rw [IntKind.wrap_i64]; omega
  have e6 : IntKind.i64.wrap ((x - M) * D + N - 1) = (x - M) * D + N - 1 := by rw [IntKind.wrap_i64]; omega
  have e3 : IntKind.i64.wrap (((x - M) * D + N - 1).tdiv N) = ((x - M) * D + N - 1) / N := by rw [Int.tdiv_eq_ediv_of_nonneg (by omega), IntKind.wrap_i64]; omega
  have e4 : IntKind.i64.wrap (W + ((x - M) * D + N - 1) / N) = Pc.wal W M N D x := by rw [IntKind.wrap_i64]; unfold Pc.wal; omega
  clear h a1 a2 a3 a4 a5 a6 a7 a8 p1 p2 q1 q2 h1 h2
  go_enter Try.func62, Try.ntmps62
  go_wp2
  go_region
  go_wp2
  go_ret
  exact ⟨rfl, rfl⟩

/-- what the three calls answer -/
def Pc.medE (W M N D x : Int) : Int := if Pc.right W M N D && Pc.inB x W 1000000 then 0 else 3
def Pc.medN (W M N D x : Int) : Int := if Pc.right W M N D && Pc.inB x W 1000000 then Pc.med W M N D x else 0
def Pc.walE (W M N D x : Int) : Int := if Pc.right W M N D && Pc.inB x M 1000000 then 0 else 3
def Pc.walN (W M N D x : Int) : Int := if Pc.right W M N D && Pc.inB x M 1000000 then Pc.wal W M N D x else 0

set_option maxHeartbeats 2000000 in
theorem media_any (W M N D x : Int) (w : World) :
    Calls Try.prog 30 #[.agg #[.int .i64 W, .int .i64 M, .int .i64 N, .int .i64 D], .int .i64 x] w fun e w' => e = .returned (.tuple #[.int .i64 (Pc.medN W M N D x), .int .i64 (Pc.medE W M N D x)]) ∧ Below w.heap.size w w' := by
  unfold Pc.medN Pc.medE
  cases h : Pc.right W M N D
  · rw [show (false && Pc.inB x W 1000000) = false from rfl, if_neg (by simp), if_neg (by simp)]
    go_enter Try.func30, Try.ntmps30
    go_wp2_with (first
      | (go_at_call 58; refine (isRight_any _ _ _ _ _).mono ?_; rintro e w' ⟨rfl, rfl⟩)
      | (go_at_call 59; refine (hasWall_any _ _ _ _ _ _).mono ?_; rintro e w' ⟨rfl, rfl⟩)
      | (go_at_call 61; refine (hasMedia_any _ _ _ _ _ _).mono ?_; rintro e w' ⟨rfl, rfl⟩)
      | (go_at_call 63; refine (isSpeed_any _ _ _).mono ?_; rintro e w' ⟨rfl, rfl⟩)
      | (go_at_call 60; refine (mediaAt_any _ _ _ _ _ _ HR.out HX1.out HX2.out).mono ?_; rintro e w' ⟨rfl, rfl⟩)
      | (go_at_call 62; refine (wallOf_any _ _ _ _ _ _ HR.out HX1.out HX2.out).mono ?_; rintro e w' ⟨rfl, rfl⟩))
    go_ret2
    exact ⟨rfl, (by repeat first | exact Below.refl _ _ | refine Below.drew ?_ | refine Below.alloc ?_ (by simp <;> omega) _)⟩
  cases h2 : Pc.inB x W 1000000
  · rw [show (true && false) = false from rfl, if_neg (by simp), if_neg (by simp)]
    go_enter Try.func30, Try.ntmps30
    go_wp2_with (first
      | (go_at_call 58; refine (isRight_any _ _ _ _ _).mono ?_; rintro e w' ⟨rfl, rfl⟩)
      | (go_at_call 59; refine (hasWall_any _ _ _ _ _ _).mono ?_; rintro e w' ⟨rfl, rfl⟩)
      | (go_at_call 61; refine (hasMedia_any _ _ _ _ _ _).mono ?_; rintro e w' ⟨rfl, rfl⟩)
      | (go_at_call 63; refine (isSpeed_any _ _ _).mono ?_; rintro e w' ⟨rfl, rfl⟩)
      | (go_at_call 60; refine (mediaAt_any _ _ _ _ _ _ HR.out HX1.out HX2.out).mono ?_; rintro e w' ⟨rfl, rfl⟩)
      | (go_at_call 62; refine (wallOf_any _ _ _ _ _ _ HR.out HX1.out HX2.out).mono ?_; rintro e w' ⟨rfl, rfl⟩))
    go_ret2
    exact ⟨rfl, (by repeat first | exact Below.refl _ _ | refine Below.drew ?_ | refine Below.alloc ?_ (by simp <;> omega) _)⟩
  rw [show (true && true) = true from rfl, if_pos rfl, if_pos rfl]
  have hx : W ≤ x ∧ x ≤ 1000000 := by simpa [Pc.inB] using h2
  have HR : Hid (Pc.right W M N D = true) := h
  have HX1 : Hid (W ≤ x) := hx.1
  have HX2 : Hid (x ≤ 1000000) := hx.2
  clear hx
  go_enter Try.func30, Try.ntmps30
  go_wp2_with (first
      | (go_at_call 58; refine (isRight_any _ _ _ _ _).mono ?_; rintro e w' ⟨rfl, rfl⟩)
      | (go_at_call 59; refine (hasWall_any _ _ _ _ _ _).mono ?_; rintro e w' ⟨rfl, rfl⟩)
      | (go_at_call 61; refine (hasMedia_any _ _ _ _ _ _).mono ?_; rintro e w' ⟨rfl, rfl⟩)
      | (go_at_call 63; refine (isSpeed_any _ _ _).mono ?_; rintro e w' ⟨rfl, rfl⟩)
      | (go_at_call 60; refine (mediaAt_any _ _ _ _ _ _ HR.out HX1.out HX2.out).mono ?_; rintro e w' ⟨rfl, rfl⟩)
      | (go_at_call 62; refine (wallOf_any _ _ _ _ _ _ HR.out HX1.out HX2.out).mono ?_; rintro e w' ⟨rfl, rfl⟩))
  go_ret2
  exact ⟨rfl, (by repeat first | exact Below.refl _ _ | refine Below.drew ?_ | refine Below.alloc ?_ (by simp <;> omega) _)⟩

set_option maxHeartbeats 2000000 in
theorem wall_any (W M N D x : Int) (w : World) :
    Calls Try.prog 31 #[.agg #[.int .i64 W, .int .i64 M, .int .i64 N, .int .i64 D], .int .i64 x] w fun e w' => e = .returned (.tuple #[.int .i64 (Pc.walN W M N D x), .int .i64 (Pc.walE W M N D x)]) ∧ Below w.heap.size w w' := by
  unfold Pc.walN Pc.walE
  cases h : Pc.right W M N D
  · rw [show (false && Pc.inB x M 1000000) = false from rfl, if_neg (by simp), if_neg (by simp)]
    go_enter Try.func31, Try.ntmps31
    go_wp2_with (first
      | (go_at_call 58; refine (isRight_any _ _ _ _ _).mono ?_; rintro e w' ⟨rfl, rfl⟩)
      | (go_at_call 59; refine (hasWall_any _ _ _ _ _ _).mono ?_; rintro e w' ⟨rfl, rfl⟩)
      | (go_at_call 61; refine (hasMedia_any _ _ _ _ _ _).mono ?_; rintro e w' ⟨rfl, rfl⟩)
      | (go_at_call 63; refine (isSpeed_any _ _ _).mono ?_; rintro e w' ⟨rfl, rfl⟩)
      | (go_at_call 60; refine (mediaAt_any _ _ _ _ _ _ HR.out HX1.out HX2.out).mono ?_; rintro e w' ⟨rfl, rfl⟩)
      | (go_at_call 62; refine (wallOf_any _ _ _ _ _ _ HR.out HX1.out HX2.out).mono ?_; rintro e w' ⟨rfl, rfl⟩))
    go_ret2
    exact ⟨rfl, (by repeat first | exact Below.refl _ _ | refine Below.drew ?_ | refine Below.alloc ?_ (by simp <;> omega) _)⟩
  cases h2 : Pc.inB x M 1000000
  · rw [show (true && false) = false from rfl, if_neg (by simp), if_neg (by simp)]
    go_enter Try.func31, Try.ntmps31
    go_wp2_with (first
      | (go_at_call 58; refine (isRight_any _ _ _ _ _).mono ?_; rintro e w' ⟨rfl, rfl⟩)
      | (go_at_call 59; refine (hasWall_any _ _ _ _ _ _).mono ?_; rintro e w' ⟨rfl, rfl⟩)
      | (go_at_call 61; refine (hasMedia_any _ _ _ _ _ _).mono ?_; rintro e w' ⟨rfl, rfl⟩)
      | (go_at_call 63; refine (isSpeed_any _ _ _).mono ?_; rintro e w' ⟨rfl, rfl⟩)
      | (go_at_call 60; refine (mediaAt_any _ _ _ _ _ _ HR.out HX1.out HX2.out).mono ?_; rintro e w' ⟨rfl, rfl⟩)
      | (go_at_call 62; refine (wallOf_any _ _ _ _ _ _ HR.out HX1.out HX2.out).mono ?_; rintro e w' ⟨rfl, rfl⟩))
    go_ret2
    exact ⟨rfl, (by repeat first | exact Below.refl _ _ | refine Below.drew ?_ | refine Below.alloc ?_ (by simp <;> omega) _)⟩
  rw [show (true && true) = true from rfl, if_pos rfl, if_pos rfl]
  have hx : M ≤ x ∧ x ≤ 1000000 := by simpa [Pc.inB] using h2
  have HR : Hid (Pc.right W M N D = true) := h
  have HX1 : Hid (M ≤ x) := hx.1
  have HX2 : Hid (x ≤ 1000000) := hx.2
  clear hx
  go_enter Try.func31, Try.ntmps31
  go_wp2_with (first
      | (go_at_call 58; refine (isRight_any _ _ _ _ _).mono ?_; rintro e w' ⟨rfl, rfl⟩)
      | (go_at_call 59; refine (hasWall_any _ _ _ _ _ _).mono ?_; rintro e w' ⟨rfl, rfl⟩)
      | (go_at_call 61; refine (hasMedia_any _ _ _ _ _ _).mono ?_; rintro e w' ⟨rfl, rfl⟩)
      | (go_at_call 63; refine (isSpeed_any _ _ _).mono ?_; rintro e w' ⟨rfl, rfl⟩)
      | (go_at_call 60; refine (mediaAt_any _ _ _ _ _ _ HR.out HX1.out HX2.out).mono ?_; rintro e w' ⟨rfl, rfl⟩)
      | (go_at_call 62; refine (wallOf_any _ _ _ _ _ _ HR.out HX1.out HX2.out).mono ?_; rintro e w' ⟨rfl, rfl⟩))
  go_ret2
  exact ⟨rfl, (by repeat first | exact Below.refl _ _ | refine Below.drew ?_ | refine Below.alloc ?_ (by simp <;> omega) _)⟩

end Go.Proofs.Ytfihnceeonffoad
