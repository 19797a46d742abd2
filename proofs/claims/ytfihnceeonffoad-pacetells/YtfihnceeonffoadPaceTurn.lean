/-
  Contract of pace.Turn.
-/
import Derived.Test.YtfihnceeonffoadPaceWalk
namespace Go.Proofs.Ytfihnceeonffoad
open Go.RowKit

def Pc.pre (W M N D x n d : Int) : Bool := Pc.right W M N D && (Pc.inB x W 1000000 && (Pc.inB n 1 100 && Pc.inB d 1 100))
def Pc.turnE (W M N D x n d : Int) : Int := if Pc.pre W M N D x n d then (if 1000000 < Pc.med W M N D x then 2 else 0) else 3

theorem Pc.turnE_zero {W M N D x n d : Int} : Pc.turnE W M N D x n d = 0 ↔ Pc.right W M N D = true ∧ Pc.inB x W 1000000 = true ∧ Pc.inB n 1 100 = true ∧ Pc.inB d 1 100 = true ∧ Pc.med W M N D x ≤ 1000000 := by
  unfold Pc.turnE
  constructor
  · intro h
    by_cases h1 : Pc.pre W M N D x n d = true
    · rw [if_pos h1] at h
      by_cases h2 : 1000000 < Pc.med W M N D x
      · rw [if_pos h2] at h; cases h
      · simp only [Pc.pre, Bool.and_eq_true] at h1
        exact ⟨h1.1, h1.2.1, h1.2.2.1, h1.2.2.2, by omega⟩
    · rw [if_neg h1] at h; cases h
  · rintro ⟨h1, h2, h3, h4, h5⟩
    rw [if_pos (by simp [Pc.pre, h1, h2, h3, h4]), if_neg (by omega)]

set_option maxHeartbeats 4000000 in
theorem turn_any (W M N D x n d : Int) (w : World) :
    Calls Try.prog 32 #[.agg #[.int .i64 W, .int .i64 M, .int .i64 N, .int .i64 D], .int .i64 x, .int .i64 n, .int .i64 d] w fun e w' => (∃ a b c f, e = .returned (.tuple #[.agg #[.int .i64 a, .int .i64 b, .int .i64 c, .int .i64 f], .int .i64 (Pc.turnE W M N D x n d)]) ∧ (Pc.turnE W M N D x n d = 0 → a = x ∧ b = Pc.med W M N D x ∧ c = n ∧ f = d) ∧ (¬ Pc.turnE W M N D x n d = 0 → a = 0 ∧ b = 0 ∧ c = 0 ∧ f = 0)) ∧ Below w.heap.size w w' := by
  cases h : Pc.right W M N D
  · rw [show Pc.turnE W M N D x n d = 3 by simp [Pc.turnE, Pc.pre, h]]
    go_enter Try.func32, Try.ntmps32
    go_wp2_with (first
      | (go_at_call 58; refine (isRight_any _ _ _ _ _).mono ?_; rintro e w' ⟨rfl, rfl⟩)
      | (go_at_call 59; refine (hasWall_any _ _ _ _ _ _).mono ?_; rintro e w' ⟨rfl, rfl⟩)
      | (go_at_call 63; refine (isSpeed_any _ _ _).mono ?_; rintro e w' ⟨rfl, rfl⟩)
      | (go_at_call 60; refine (HM.out _).mono ?_; rintro e w' ⟨rfl, rfl⟩))
    exact bodyPost_ret (v := .tuple #[.agg #[.int .i64 0, .int .i64 0, .int .i64 0, .int .i64 0], .int .i64 3]) (by simp [results, Try.results32, go_sem]) rfl ⟨⟨_, _, _, _, rfl, fun h => absurd h (by decide), fun _ => ⟨rfl, rfl, rfl, rfl⟩⟩, (by repeat first | exact Below.refl _ _ | refine Below.drew ?_ | refine Below.setCell ?_ (by simp <;> omega) _ | refine Below.alloc ?_ (by simp <;> omega) _)⟩
  cases h2 : Pc.inB x W 1000000
  · rw [show Pc.turnE W M N D x n d = 3 by simp [Pc.turnE, Pc.pre, h2]]
    go_enter Try.func32, Try.ntmps32
    go_wp2_with (first
      | (go_at_call 58; refine (isRight_any _ _ _ _ _).mono ?_; rintro e w' ⟨rfl, rfl⟩)
      | (go_at_call 59; refine (hasWall_any _ _ _ _ _ _).mono ?_; rintro e w' ⟨rfl, rfl⟩)
      | (go_at_call 63; refine (isSpeed_any _ _ _).mono ?_; rintro e w' ⟨rfl, rfl⟩)
      | (go_at_call 60; refine (HM.out _).mono ?_; rintro e w' ⟨rfl, rfl⟩))
    exact bodyPost_ret (v := .tuple #[.agg #[.int .i64 0, .int .i64 0, .int .i64 0, .int .i64 0], .int .i64 3]) (by simp [results, Try.results32, go_sem]) rfl ⟨⟨_, _, _, _, rfl, fun h => absurd h (by decide), fun _ => ⟨rfl, rfl, rfl, rfl⟩⟩, (by repeat first | exact Below.refl _ _ | refine Below.drew ?_ | refine Below.setCell ?_ (by simp <;> omega) _ | refine Below.alloc ?_ (by simp <;> omega) _)⟩
  cases h3 : (Pc.inB n 1 100 && Pc.inB d 1 100)
  · rw [show Pc.turnE W M N D x n d = 3 by simp only [Pc.turnE, Pc.pre, h3]; simp]
    go_enter Try.func32, Try.ntmps32
    go_wp2_with (first
      | (go_at_call 58; refine (isRight_any _ _ _ _ _).mono ?_; rintro e w' ⟨rfl, rfl⟩)
      | (go_at_call 59; refine (hasWall_any _ _ _ _ _ _).mono ?_; rintro e w' ⟨rfl, rfl⟩)
      | (go_at_call 63; refine (isSpeed_any _ _ _).mono ?_; rintro e w' ⟨rfl, rfl⟩)
      | (go_at_call 60; refine (HM.out _).mono ?_; rintro e w' ⟨rfl, rfl⟩))
    exact bodyPost_ret (v := .tuple #[.agg #[.int .i64 0, .int .i64 0, .int .i64 0, .int .i64 0], .int .i64 3]) (by simp [results, Try.results32, go_sem]) rfl ⟨⟨_, _, _, _, rfl, fun h => absurd h (by decide), fun _ => ⟨rfl, rfl, rfl, rfl⟩⟩, (by repeat first | exact Below.refl _ _ | refine Below.drew ?_ | refine Below.setCell ?_ (by simp <;> omega) _ | refine Below.alloc ?_ (by simp <;> omega) _)⟩
  have hx : W ≤ x ∧ x ≤ 1000000 := by simpa [Pc.inB] using h2
  have HR : Hid (Pc.right W M N D = true) := h
  have HX1 : Hid (W ≤ x) := hx.1
  have HX2 : Hid (x ≤ 1000000) := hx.2
  clear hx
  have hp : Pc.pre W M N D x n d = true := by simp only [Pc.pre, h, h2, h3]; rfl
  obtain ⟨m, hm⟩ : ∃ m, m = Pc.med W M N D x := ⟨_, rfl⟩
  by_cases h4 : 1000000 < m
  · rw [show Pc.turnE W M N D x n d = 2 by rw [Pc.turnE, if_pos hp, ← hm, if_pos h4]]
    rw [← hm]
    have HM : Hid (∀ w' : World, Calls Try.prog 60 #[.agg #[.int .i64 W, .int .i64 M, .int .i64 N, .int .i64 D], .int .i64 x] w' fun e w'' => e = .returned (.int .i64 m) ∧ w'' = (w'.alloc (.cells #[.int .i64 W, .int .i64 M, .int .i64 N, .int .i64 D] 100)).drew) := fun w' => by rw [hm]; exact mediaAt_any _ _ _ _ _ _ HR.out HX1.out HX2.out
    clear hm hp
    go_enter Try.func32, Try.ntmps32
    go_wp2_with (first
      | (go_at_call 58; refine (isRight_any _ _ _ _ _).mono ?_; rintro e w' ⟨rfl, rfl⟩)
      | (go_at_call 59; refine (hasWall_any _ _ _ _ _ _).mono ?_; rintro e w' ⟨rfl, rfl⟩)
      | (go_at_call 63; refine (isSpeed_any _ _ _).mono ?_; rintro e w' ⟨rfl, rfl⟩)
      | (go_at_call 60; refine (HM.out _).mono ?_; rintro e w' ⟨rfl, rfl⟩))
    exact bodyPost_ret (v := .tuple #[.agg #[.int .i64 0, .int .i64 0, .int .i64 0, .int .i64 0], .int .i64 2]) (by simp [results, Try.results32, go_sem]) rfl ⟨⟨_, _, _, _, rfl, fun h => absurd h (by decide), fun _ => ⟨rfl, rfl, rfl, rfl⟩⟩, (by repeat first | exact Below.refl _ _ | refine Below.drew ?_ | refine Below.setCell ?_ (by simp <;> omega) _ | refine Below.alloc ?_ (by simp <;> omega) _)⟩
  · rw [show Pc.turnE W M N D x n d = 0 by rw [Pc.turnE, if_pos hp, ← hm, if_neg h4]]
    rw [← hm]
    have HM : Hid (∀ w' : World, Calls Try.prog 60 #[.agg #[.int .i64 W, .int .i64 M, .int .i64 N, .int .i64 D], .int .i64 x] w' fun e w'' => e = .returned (.int .i64 m) ∧ w'' = (w'.alloc (.cells #[.int .i64 W, .int .i64 M, .int .i64 N, .int .i64 D] 100)).drew) := fun w' => by rw [hm]; exact mediaAt_any _ _ _ _ _ _ HR.out HX1.out HX2.out
    clear hm hp
    go_enter Try.func32, Try.ntmps32
    go_wp2_with (first
      | (go_at_call 58; refine (isRight_any _ _ _ _ _).mono ?_; rintro e w' ⟨rfl, rfl⟩)
      | (go_at_call 59; refine (hasWall_any _ _ _ _ _ _).mono ?_; rintro e w' ⟨rfl, rfl⟩)
      | (go_at_call 63; refine (isSpeed_any _ _ _).mono ?_; rintro e w' ⟨rfl, rfl⟩)
      | (go_at_call 60; refine (HM.out _).mono ?_; rintro e w' ⟨rfl, rfl⟩))
    exact bodyPost_ret (v := .tuple #[.agg #[.int .i64 x, .int .i64 m, .int .i64 n, .int .i64 d], .int .i64 0]) (by simp [results, Try.results32, go_sem]) rfl ⟨⟨_, _, _, _, rfl, fun _ => ⟨rfl, rfl, rfl, rfl⟩, fun h => absurd trivial (by simp at h)⟩, (by repeat first | exact Below.refl _ _ | refine Below.drew ?_ | refine Below.setCell ?_ (by simp <;> omega) _ | refine Below.alloc ?_ (by simp <;> omega) _)⟩

end Go.Proofs.Ytfihnceeonffoad
