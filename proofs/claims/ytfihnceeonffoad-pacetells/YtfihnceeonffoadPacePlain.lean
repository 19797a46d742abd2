/-
  Plain facts on paces: where one is at a time, and when it comes to a media time.
-/
namespace Go.Proofs.Ytfihnceeonffoad
namespace Pc
def ok (W M N D : Int) : Bool := decide (0 ≤ W) && (decide (W ≤ 1000000) && (decide (0 ≤ M) && (decide (M ≤ 1000000) && (decide (1 ≤ N) && (decide (N ≤ 100) && (decide (1 ≤ D) && decide (D ≤ 100)))))))
def sp (N D : Int) : Bool := decide (1 ≤ N) && (decide (N ≤ 100) && (decide (1 ≤ D) && decide (D ≤ 100)))
def med (W M N D x : Int) : Int := M + (x - W) * N / D
def wal (W M N D x : Int) : Int := W + ((x - M) * D + N - 1) / N

theorem ok_iff {W M N D : Int} : ok W M N D = true ↔ 0 ≤ W ∧ W ≤ 1000000 ∧ 0 ≤ M ∧ M ≤ 1000000 ∧ 1 ≤ N ∧ N ≤ 100 ∧ 1 ≤ D ∧ D ≤ 100 := by
  simp [ok]

theorem mul_bound {a n A B : Int} (h1 : 0 ≤ a) (h2 : a ≤ A) (h3 : 0 ≤ n) (h4 : n ≤ B) : 0 ≤ a * n ∧ a * n ≤ A * B :=
  ⟨Int.mul_nonneg h1 h3, Int.mul_le_mul h2 h4 h3 (by omega)⟩

theorem reach {W M N D m x : Int} (hN : 1 ≤ N) (hD : 1 ≤ D) : x ≤ med W M N D m ↔ wal W M N D x ≤ m := by
  unfold med wal
  have h1 : x ≤ M + (m - W) * N / D ↔ (x - M) * D ≤ (m - W) * N := by
    rw [← Int.le_ediv_iff_mul_le (by omega)]; omega
  have h2 : W + ((x - M) * D + N - 1) / N ≤ m ↔ ((x - M) * D + N - 1) / N < (m - W) + 1 := by omega
  rw [h1, h2, Int.ediv_lt_iff_lt_mul (by omega), Int.add_mul]
  omega

theorem med_ge {W M N D x : Int} (hN : 1 ≤ N) (hD : 1 ≤ D) (hx : W ≤ x) : M ≤ med W M N D x := by
  unfold med
  have : 0 ≤ (x - W) * N / D := Int.ediv_nonneg (Int.mul_nonneg (by omega) (by omega)) (by omega)
  omega

theorem med_mono {W M N D x y : Int} (hN : 1 ≤ N) (hD : 1 ≤ D) (hx : x ≤ y) : med W M N D x ≤ med W M N D y := by
  unfold med
  have : (x - W) * N / D ≤ (y - W) * N / D := Int.ediv_le_ediv (by omega) (Int.mul_le_mul_of_nonneg_right (by omega) (by omega))
  omega

theorem wal_ge {W M N D x : Int} (hN : 1 ≤ N) (hD : 1 ≤ D) (hx : M ≤ x) : W ≤ wal W M N D x := by
  unfold wal
  have h1 : 0 ≤ (x - M) * D := Int.mul_nonneg (by omega) (by omega)
  have : 0 ≤ ((x - M) * D + N - 1) / N := Int.ediv_nonneg (by omega) (by omega)
  omega

theorem wal_le {W M N D x : Int} (hN : 1 ≤ N) (hD : 1 ≤ D) (hx : M ≤ x) : wal W M N D x ≤ W + (x - M) * D := by
  unfold wal
  have h1 : 0 ≤ (x - M) * D := Int.mul_nonneg (by omega) (by omega)
  have : ((x - M) * D + N - 1) / N < (x - M) * D + 1 := by
    rw [Int.ediv_lt_iff_lt_mul (by omega), Int.add_mul]
    have : (x - M) * D ≤ (x - M) * D * N := by
      have := Int.mul_le_mul_of_nonneg_left hN h1
      omega
    omega
  omega

theorem turns {W M N D x y : Int} (hD : 1 ≤ D) : med x (med W M N D x) N D y ≤ med W M N D y ∧ med W M N D y ≤ med x (med W M N D x) N D y + 1 := by
  unfold med
  have e : (y - W) * N = (x - W) * N + (y - x) * N := by rw [← Int.add_mul]; congr 1; omega
  rw [e]
  generalize (x - W) * N = a
  generalize (y - x) * N = b
  have h1 := Int.emod_add_mul_ediv a D
  have h2 := Int.emod_add_mul_ediv b D
  have h3 := Int.emod_nonneg a (b := D) (by omega)
  have h4 := Int.emod_nonneg b (b := D) (by omega)
  have h5 := Int.emod_lt_of_pos a (b := D) (by omega)
  have h6 := Int.emod_lt_of_pos b (b := D) (by omega)
  have e2 : a + b = (a % D + b % D) + D * (a / D + b / D) := by rw [Int.mul_add]; omega
  rw [e2, Int.add_mul_ediv_left _ _ (by omega)]
  have h7 : 0 ≤ (a % D + b % D) / D := Int.ediv_nonneg (by omega) (by omega)
  have h8 : (a % D + b % D) / D < 2 := by rw [Int.ediv_lt_iff_lt_mul (by omega)]; omega
  omega
end Pc

end Go.Proofs.Ytfihnceeonffoad
