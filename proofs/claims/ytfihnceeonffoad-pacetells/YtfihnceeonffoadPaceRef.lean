/-
  Contracts: the document's CheckPace, MediaOf, WallOf.
-/
import Derived.Test.YtfihnceeonffoadPaceBegun
import Derived.Test.YtfihnceeonffoadRefBetween
import Derived.Test.YtfihnceeonffoadSlices
namespace Go.Proofs.Ytfihnceeonffoad
open Go.RowKit

set_option maxHeartbeats 2000000 in
theorem refCheckPace_any (W M N D : Int) (w : World) :
    Calls Try.prog 33 #[.agg #[.int .i64 W, .int .i64 M, .int .i64 N, .int .i64 D]] w fun e w' => e = .returned (.int .i64 (if Pc.right W M N D then 0 else 3)) ∧ Below w.heap.size w w' := by
  have e : Pc.right W M N D = (Cn.betB W 0 1000000 && (Cn.betB M 0 1000000 && (Cn.betB N 1 100 && Cn.betB D 1 100))) := rfl
  rw [e]; clear e
  cases h1 : Cn.betB W 0 1000000
  · rw [if_neg (by simp)]
    go_enter Try.func33, Try.ntmps33
    go_wp2_with (go_at_call 52; refine (between_any _ _ _ _).mono ?_; rintro e w' ⟨rfl, rfl⟩)
    go_ret
    exact ⟨rfl, (Below.refl _ _).alloc (Nat.le_refl _) _⟩
  cases h2 : Cn.betB M 0 1000000
  · rw [if_neg (by simp)]
    go_enter Try.func33, Try.ntmps33
    go_wp2_with (go_at_call 52; refine (between_any _ _ _ _).mono ?_; rintro e w' ⟨rfl, rfl⟩)
    go_ret
    exact ⟨rfl, (Below.refl _ _).alloc (Nat.le_refl _) _⟩
  cases h3 : Cn.betB N 1 100
  · rw [if_neg (by simp)]
    go_enter Try.func33, Try.ntmps33
    go_wp2_with (go_at_call 52; refine (between_any _ _ _ _).mono ?_; rintro e w' ⟨rfl, rfl⟩)
    go_ret
    exact ⟨rfl, (Below.refl _ _).alloc (Nat.le_refl _) _⟩
  cases h4 : Cn.betB D 1 100
  · rw [if_neg (by simp)]
    go_enter Try.func33, Try.ntmps33
    go_wp2_with (go_at_call 52; refine (between_any _ _ _ _).mono ?_; rintro e w' ⟨rfl, rfl⟩)
    go_ret
    exact ⟨rfl, (Below.refl _ _).alloc (Nat.le_refl _) _⟩
  rw [if_pos (by simp)]
  go_enter Try.func33, Try.ntmps33
  go_wp2_with (go_at_call 52; refine (between_any _ _ _ _).mono ?_; rintro e w' ⟨rfl, rfl⟩)
  go_ret
  exact ⟨rfl, (Below.refl _ _).alloc (Nat.le_refl _) _⟩

set_option maxHeartbeats 2000000 in
theorem refMediaOf_any (W M N D x : Int) (w : World) (h : Pc.right W M N D = true) (h1 : W ≤ x) (h2 : x ≤ 200000000) :
    Calls Try.prog 34 #[.agg #[.int .i64 W, .int .i64 M, .int .i64 N, .int .i64 D], .int .i64 x] w fun e w' => e = .returned (.int .i64 (Pc.med W M N D x)) ∧ Below w.heap.size w w' := by
  obtain ⟨a1, a2, a3, a4, a5, a6, a7, a8⟩ := Pc.right_iff.1 h
  have hD : ¬ D = 0 := by omega
  obtain ⟨p1, p2⟩ := Pc.mul_bound (a := x - W) (n := N) (A := 200000000) (B := 100) (by omega) (by omega) (by omega) (by omega)
  have q1 : 0 ≤ (x - W) * N / D := Int.ediv_nonneg p1 (by omega)
  have q2 : (x - W) * N / D ≤ (x - W) * N := Int.ediv_le_self _ p1
  have e1 : IntKind.i64.wrap (x - W) = x - W := by rw [IntKind.wrap_i64]; omega
  have e2 : IntKind.i64.wrap ((x - W) * N) = (x - W) * N := by rw [IntKind.wrap_i64]; omega
  have e3 : IntKind.i64.wrap (((x - W) * N).tdiv D) = (x - W) * N / D := by rw [Int.tdiv_eq_ediv_of_nonneg p1, IntKind.wrap_i64]; omega
  have e4 : IntKind.i64.wrap (M + (x - W) * N / D) = Pc.med W M N D x := by rw [IntKind.wrap_i64]; unfold Pc.med; omega
  clear h a1 a2 a3 a4 a5 a6 a7 a8 p1 p2 q1 q2 h1 h2
  go_enter Try.func34, Try.ntmps34
  go_wp2
  go_region
  go_wp2
  go_ret
  exact ⟨rfl, Below.drew ((Below.refl _ _).alloc (Nat.le_refl _) _)⟩

set_option maxHeartbeats 2000000 in
theorem refWallOf_any (W M N D x : Int) (w : World) (h : Pc.right W M N D = true) (h1 : M ≤ x) (h2 : x ≤ 1000000) :
    Calls Try.prog 35 #[.agg #[.int .i64 W, .int .i64 M, .int .i64 N, .int .i64 D], .int .i64 x] w fun e w' => e = .returned (.int .i64 (Pc.wal W M N D x)) ∧ Below w.heap.size w w' := by
  obtain ⟨a1, a2, a3, a4, a5, a6, a7, a8⟩ := Pc.right_iff.1 h
  obtain ⟨p1, p2⟩ := Pc.mul_bound (a := x - M) (n := D) (A := 1000000) (B := 100) (by omega) (by omega) (by omega) (by omega)
  obtain ⟨A, hA⟩ : ∃ A, A = Pc.wal W M N D x := ⟨_, rfl⟩
  obtain ⟨P, hP⟩ : ∃ P, P = (x - M) * D := ⟨_, rfl⟩
  have g1 : W ≤ A := by rw [hA]; exact Pc.wal_ge (by omega) (by omega) h1
  have g2 : A ≤ W + P := by rw [hA, hP]; exact Pc.wal_le (by omega) (by omega) h1
  have HR : Hid (∀ m, x ≤ Pc.med W M N D m ↔ A ≤ m) := fun m => by rw [hA]; exact Pc.reach (by omega) (by omega)
  have e1 : IntKind.i64.wrap (x - M) = x - M := by rw [IntKind.wrap_i64]; omega
  have e2 : IntKind.i64.wrap ((x - M) * D) = P := by rw [IntKind.wrap_i64, hP]; omega
  rw [← hP] at p1 p2
  have e5 : IntKind.i64.wrap (W + P) = W + P := by rw [IntKind.wrap_i64]; omega
  have e6 : IntKind.i64.wrap (W + P + 1) = W + P + 1 := by rw [IntKind.wrap_i64]; omega
  rw [← hA]
  clear hA hP
  have HM : Hid (∀ m w', W ≤ m → m ≤ 200000000 → Calls Try.prog 34 #[.agg #[.int .i64 W, .int .i64 M, .int .i64 N, .int .i64 D], .int .i64 m] w' fun e w'' => e = .returned (.int .i64 (Pc.med W M N D m)) ∧ Below w'.heap.size w' w'') := fun m w' => refMediaOf_any W M N D m w' h
  clear h
  go_enter Try.func35, Try.ntmps35
  go_wp2
  go_region
  have K0 : Hid (Blk (w.alloc (.cells #[.int .i64 W, .int .i64 M, .int .i64 N, .int .i64 D] 64)).drew w.heap.size #[.int .i64 W, .int .i64 M, .int .i64 N, .int .i64 D] 64) := Blk.new _ _ _
  have B0 : Hid (Below w.heap.size w (w.alloc (.cells #[.int .i64 W, .int .i64 M, .int .i64 N, .int .i64 D] 64)).drew) := Below.drew ((Below.refl _ _).alloc (Nat.le_refl _) _)
  clear e1 e2 e5 e6
  go_wp2_with fail
  go_loopw [5, 6] (fun s5 s6 wr => ∃ lo hi : Int, W ≤ lo ∧ lo ≤ A ∧ A ≤ hi ∧ hi ≤ 101000001 ∧ s5 = .int .i64 lo ∧ s6 = .int .i64 hi ∧ Hid (Blk wr w.heap.size #[.int .i64 W, .int .i64 M, .int .i64 N, .int .i64 D] 64) ∧ Hid (Below w.heap.size w wr))
    (fun a b _ => (intOf b - intOf a).toNat)
  case atStart => exact ⟨W, W + P + 1, by omega, by omega, by omega, by omega, rfl, rfl, K0, B0⟩
  case round =>
    obtain ⟨lo, hi, l1, l2, l3, l4, rfl, rfl, KR, BR⟩ := hrel
    obtain ⟨k0, k1, k2, k3⟩ := KR.out.four
    by_cases hlt : lo < hi
    · obtain ⟨q, hq⟩ : ∃ q, q = (lo + hi) / 2 := ⟨_, rfl⟩
      have q1 : lo ≤ q := by omega
      have q2 : q < hi := by omega
      go_wp2_with fail
      rw [← hq]
      refine (HM.out q _ (by omega) (by omega)).mono ?_
      rintro e w3 ⟨rfl, hb3⟩
      have K3 : Hid (Blk w3 w.heap.size #[.int .i64 W, .int .i64 M, .int .i64 N, .int .i64 D] 64) := KR.out.below hb3 KR.out.lt
      have B3 : Hid (Below w.heap.size w w3) := BR.out.trans (hb3.mono BR.out.size)
      have hr := HR.out q
      clear hb3 KR BR k0 k1 k2 k3 hq
      obtain ⟨G, hG⟩ : ∃ G, G = Pc.med W M N D q := ⟨_, rfl⟩
      rw [← hG] at hr ⊢
      clear hG
      by_cases hg : x ≤ G
      · have := hr.1 hg
        clear hr
        go_wp2_with fail
        go_roundw
        case rel => exact ⟨lo, q, l1, l2, this, by omega, rfl, rfl, K3, B3⟩
        case measure => simp [intOf]; omega
      · have : q < A := by
          by_cases h : A ≤ q
          · exact absurd (hr.2 h) hg
          · omega
        clear hr
        go_wp2_with fail
        go_roundw
        case rel => exact ⟨q + 1, hi, by omega, by omega, l3, l4, by go_num, rfl, K3, B3⟩
        case measure => simp [intOf]; omega
    · have : lo = A := by omega
      go_wp2
      go_ret
      exact ⟨rfl, BR.out⟩

end Go.Proofs.Ytfihnceeonffoad
