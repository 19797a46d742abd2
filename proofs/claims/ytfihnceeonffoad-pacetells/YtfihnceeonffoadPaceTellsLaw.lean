/-
  The walk of switchbacklaw.PaceTells.
-/
import Derived.Test.YtfihnceeonffoadPaceRef
import Derived.Deep.DeepCutAuto
namespace Go.Proofs.Ytfihnceeonffoad
open Go.RowKit

theorem Blk.set4 {w : World} {g : Nat} {t : TypeId} {y0 y1 y2 y3 : Value} (h : Blk w g #[y0, y1, y2, y3] t) (x0 x1 x2 x3 : Value) : Blk ((((w.setCell ⟨g, 0, none⟩ x0).setCell ⟨g, 1, none⟩ x1).setCell ⟨g, 2, none⟩ x2).setCell ⟨g, 3, none⟩ x3) g #[x0, x1, x2, x3] t := by
  simpa using (((h.set 0 x0).set 1 x1).set 2 x2).set 3 x3
theorem Blk.other4 {w : World} {b g : Nat} {t : TypeId} {C : Array Value} (h : Blk w b C t) (hb : b ≠ g) (x0 x1 x2 x3 : Value) : Blk ((((w.setCell ⟨g, 0, none⟩ x0).setCell ⟨g, 1, none⟩ x1).setCell ⟨g, 2, none⟩ x2).setCell ⟨g, 3, none⟩ x3) b C t :=
  (((h.other (a := ⟨g, 0, none⟩) hb x0).other (a := ⟨g, 1, none⟩) hb x1).other (a := ⟨g, 2, none⟩) hb x2).other (a := ⟨g, 3, none⟩) hb x3
theorem below4 {B : Nat} {a w : World} {g : Nat} (h : Below B a w) (hg : B ≤ g) (x0 x1 x2 x3 : Value) : Below B a ((((w.setCell ⟨g, 0, none⟩ x0).setCell ⟨g, 1, none⟩ x1).setCell ⟨g, 2, none⟩ x2).setCell ⟨g, 3, none⟩ x3) :=
  (((h.setCell (p := ⟨g, 0, none⟩) hg x0).setCell (p := ⟨g, 1, none⟩) hg x1).setCell (p := ⟨g, 2, none⟩) hg x2).setCell (p := ⟨g, 3, none⟩) hg x3

theorem Pc.inB_iff {n lo hi : Int} : Pc.inB n lo hi = true ↔ lo ≤ n ∧ n ≤ hi := by simp [Pc.inB]
theorem Pc.med_cases (W M N D x U : Int) (hU : U = if Pc.right W M N D then 0 else 3) : (U = 0 ∧ W ≤ x ∧ x ≤ 1000000 → Pc.medE W M N D x = 0) ∧ (¬ (U = 0 ∧ W ≤ x ∧ x ≤ 1000000) → Pc.medE W M N D x = 3 ∧ Pc.medN W M N D x = 0) := by
  unfold Pc.medE Pc.medN
  by_cases h1 : Pc.right W M N D = true
  · rw [if_pos h1] at hU
    rw [h1, Bool.true_and, ← Pc.inB_iff]
    refine ⟨fun h => if_pos h.2, fun h => ?_⟩
    have h2 : ¬ Pc.inB x W 1000000 = true := fun h2 => h ⟨hU, h2⟩
    exact ⟨if_neg h2, if_neg h2⟩
  · rw [if_neg h1] at hU
    rw [Bool.eq_false_iff.2 h1, Bool.false_and]
    exact ⟨fun h => by omega, fun _ => ⟨rfl, rfl⟩⟩
theorem Pc.wal_cases (W M N D x U : Int) (hU : U = if Pc.right W M N D then 0 else 3) : (U = 0 ∧ M ≤ x ∧ x ≤ 1000000 → Pc.walE W M N D x = 0) ∧ (¬ (U = 0 ∧ M ≤ x ∧ x ≤ 1000000) → Pc.walE W M N D x = 3 ∧ Pc.walN W M N D x = 0) := by
  unfold Pc.walE Pc.walN
  by_cases h1 : Pc.right W M N D = true
  · rw [if_pos h1] at hU
    rw [h1, Bool.true_and, ← Pc.inB_iff]
    refine ⟨fun h => if_pos h.2, fun h => ?_⟩
    have h2 : ¬ Pc.inB x M 1000000 = true := fun h2 => h ⟨hU, h2⟩
    exact ⟨if_neg h2, if_neg h2⟩
  · rw [if_neg h1] at hU
    rw [Bool.eq_false_iff.2 h1, Bool.false_and]
    exact ⟨fun h => by omega, fun _ => ⟨rfl, rfl⟩⟩
theorem Pc.pre_cases (W M N D x n d : Int) : (Pc.medE W M N D x = 0 ∧ 1 ≤ n ∧ n ≤ 100 ∧ 1 ≤ d ∧ d ≤ 100 → (if Pc.pre W M N D x n d then 0 else 3) = (0 : Int)) ∧ (¬ (Pc.medE W M N D x = 0 ∧ 1 ≤ n ∧ n ≤ 100 ∧ 1 ≤ d ∧ d ≤ 100) → (if Pc.pre W M N D x n d then 0 else 3) = (3 : Int)) := by
  have h1 : Pc.medE W M N D x = 0 ↔ Pc.right W M N D = true ∧ Pc.inB x W 1000000 = true := by
    unfold Pc.medE
    by_cases h : (Pc.right W M N D && Pc.inB x W 1000000) = true
    · rw [if_pos h]; simpa using h
    · rw [if_neg h]; simp only [Bool.and_eq_true] at h; exact ⟨fun h' => absurd h' (by decide), fun h' => absurd h' h⟩
  have h2 : Pc.pre W M N D x n d = true ↔ (Pc.medE W M N D x = 0 ∧ 1 ≤ n ∧ n ≤ 100 ∧ 1 ≤ d ∧ d ≤ 100) := by
    rw [h1]; simp only [Pc.pre, Bool.and_eq_true, Pc.inB_iff]
    constructor
    · rintro ⟨a, b, c, d⟩; exact ⟨⟨a, b⟩, c.1, c.2, d.1, d.2⟩
    · rintro ⟨⟨a, b⟩, c, d, e, f⟩; exact ⟨a, b, ⟨c, d⟩, e, f⟩
  rw [← h2]
  exact ⟨fun h => if_pos h, fun h => if_neg h⟩
theorem Pc.turn_cases (W M N D x n d Y : Int) (hY : Y = if Pc.pre W M N D x n d then 0 else 3) : (Y = 0 → Pc.medN W M N D x = Pc.med W M N D x ∧ (1000000 < Pc.medN W M N D x → Pc.turnE W M N D x n d = 2) ∧ (Pc.medN W M N D x ≤ 1000000 → Pc.turnE W M N D x n d = 0)) ∧ (¬ Y = 0 → Pc.turnE W M N D x n d = 3) := by
  unfold Pc.turnE Pc.medN
  by_cases h : Pc.pre W M N D x n d = true
  · rw [if_pos h] at hY
    rw [if_pos h]
    simp only [Pc.pre, Bool.and_eq_true] at h
    rw [if_pos (by simp [h.1, h.2.1])]
    exact ⟨fun _ => ⟨rfl, fun hg => if_pos hg, fun hg => if_neg (by omega)⟩, fun h => absurd hY h⟩
  · rw [if_neg h] at hY; rw [if_neg h]; exact ⟨fun h => by omega, fun _ => rfl⟩

set_option maxHeartbeats 8000000 in
set_option maxRecDepth 100000 in
theorem paceTells_any (W M N D x m n d : Int) (w : World) :
    Calls Try.prog 8 #[.agg #[.int .i64 W, .int .i64 M, .int .i64 N, .int .i64 D], .int .i64 x, .int .i64 m, .int .i64 n, .int .i64 d] w fun e w' => e = .returned (.bool true) ∧ Below w.heap.size w w' := by
  obtain ⟨E1, hE1⟩ : ∃ E, E = Pc.medE W M N D x := ⟨_, rfl⟩
  obtain ⟨A1, hA1⟩ : ∃ E, E = Pc.medN W M N D x := ⟨_, rfl⟩
  obtain ⟨E2, hE2⟩ : ∃ E, E = Pc.walE W M N D m := ⟨_, rfl⟩
  obtain ⟨A2, hA2⟩ : ∃ E, E = Pc.walN W M N D m := ⟨_, rfl⟩
  obtain ⟨E3, hE3⟩ : ∃ E, E = Pc.turnE W M N D x n d := ⟨_, rfl⟩
  obtain ⟨U, hU⟩ : ∃ U : Int, U = if Pc.right W M N D then 0 else 3 := ⟨_, rfl⟩
  obtain ⟨Y, hY⟩ : ∃ Y : Int, Y = if Pc.pre W M N D x n d then 0 else 3 := ⟨_, rfl⟩
  have HA : Hid (∀ w' : World, Calls Try.prog 30 #[.agg #[.int .i64 W, .int .i64 M, .int .i64 N, .int .i64 D], .int .i64 x] w' fun e w'' => e = .returned (.tuple #[.int .i64 A1, .int .i64 E1]) ∧ Below w'.heap.size w' w'') := fun w' => by rw [hA1, hE1]; exact media_any _ _ _ _ _ _
  have HB : Hid (∀ w' : World, Calls Try.prog 31 #[.agg #[.int .i64 W, .int .i64 M, .int .i64 N, .int .i64 D], .int .i64 m] w' fun e w'' => e = .returned (.tuple #[.int .i64 A2, .int .i64 E2]) ∧ Below w'.heap.size w' w'') := fun w' => by rw [hA2, hE2]; exact wall_any _ _ _ _ _ _
  have HT : Hid (∀ w' : World, Calls Try.prog 32 #[.agg #[.int .i64 W, .int .i64 M, .int .i64 N, .int .i64 D], .int .i64 x, .int .i64 n, .int .i64 d] w' fun e w'' => ∃ a b c f, e = .returned (.tuple #[.agg #[.int .i64 a, .int .i64 b, .int .i64 c, .int .i64 f], .int .i64 E3]) ∧ Hid ((E3 = 0 → a = x ∧ b = Pc.med W M N D x ∧ c = n ∧ f = d) ∧ (¬ E3 = 0 → a = 0 ∧ b = 0 ∧ c = 0 ∧ f = 0)) ∧ Below w'.heap.size w' w'') := fun w' => by
    refine (turn_any W M N D x n d w').mono ?_
    rw [← hE3]
    rintro e w'' ⟨⟨a, b, c, f, rfl, h1, h2⟩, hb⟩
    exact ⟨a, b, c, f, rfl, ⟨h1, h2⟩, hb⟩
  have HC : Hid (∀ w' : World, Calls Try.prog 33 #[.agg #[.int .i64 W, .int .i64 M, .int .i64 N, .int .i64 D]] w' fun e w'' => e = .returned (.int .i64 U) ∧ Below w'.heap.size w' w'') := fun w' => by rw [hU]; exact refCheckPace_any _ _ _ _ _
  have HM : Hid (E1 = 0 → ∀ w' : World, Calls Try.prog 34 #[.agg #[.int .i64 W, .int .i64 M, .int .i64 N, .int .i64 D], .int .i64 x] w' fun e w'' => e = .returned (.int .i64 A1) ∧ Below w'.heap.size w' w'') := fun h w' => by
    rw [hE1] at h; unfold Pc.medE at h
    by_cases hc : (Pc.right W M N D && Pc.inB x W 1000000) = true
    · have e : A1 = Pc.med W M N D x := by rw [hA1]; unfold Pc.medN; rw [if_pos hc]
      simp only [Bool.and_eq_true] at hc
      have hm : W ≤ x ∧ x ≤ 1000000 := by simpa [Pc.inB] using hc.2
      rw [e]; exact refMediaOf_any _ _ _ _ _ _ hc.1 hm.1 (by omega)
    · rw [if_neg hc] at h; cases h
  have HW : Hid (E2 = 0 → ∀ w' : World, Calls Try.prog 35 #[.agg #[.int .i64 W, .int .i64 M, .int .i64 N, .int .i64 D], .int .i64 m] w' fun e w'' => e = .returned (.int .i64 A2) ∧ Below w'.heap.size w' w'') := fun h w' => by
    rw [hE2] at h; unfold Pc.walE at h
    by_cases hc : (Pc.right W M N D && Pc.inB m M 1000000) = true
    · have e : A2 = Pc.wal W M N D m := by rw [hA2]; unfold Pc.walN; rw [if_pos hc]
      simp only [Bool.and_eq_true] at hc
      have hm : M ≤ m ∧ m ≤ 1000000 := by simpa [Pc.inB] using hc.2
      rw [e]; exact refWallOf_any _ _ _ _ _ _ hc.1 hm.1 hm.2
    · rw [if_neg hc] at h; cases h
  have HE1 : Hid ((U = 0 ∧ W ≤ x ∧ x ≤ 1000000 → E1 = 0) ∧ (¬ (U = 0 ∧ W ≤ x ∧ x ≤ 1000000) → E1 = 3 ∧ A1 = 0)) := by
    show _ ∧ _; rw [hE1, hA1]; exact Pc.med_cases W M N D x U hU
  have HE2 : Hid ((U = 0 ∧ M ≤ m ∧ m ≤ 1000000 → E2 = 0) ∧ (¬ (U = 0 ∧ M ≤ m ∧ m ≤ 1000000) → E2 = 3 ∧ A2 = 0)) := by
    show _ ∧ _; rw [hE2, hA2]; exact Pc.wal_cases W M N D m U hU
  have HYY : Hid ((E1 = 0 ∧ 1 ≤ n ∧ n ≤ 100 ∧ 1 ≤ d ∧ d ≤ 100 → Y = 0) ∧ (¬ (E1 = 0 ∧ 1 ≤ n ∧ n ≤ 100 ∧ 1 ≤ d ∧ d ≤ 100) → Y = 3)) := by
    show _ ∧ _; rw [hE1, hY]; exact Pc.pre_cases W M N D x n d
  have HE3 : Hid ((Y = 0 → A1 = Pc.med W M N D x ∧ (1000000 < A1 → E3 = 2) ∧ (A1 ≤ 1000000 → E3 = 0)) ∧ (¬ Y = 0 → E3 = 3)) := by
    show _ ∧ _; rw [hE3, hA1]; exact Pc.turn_cases W M N D x n d Y hY
  have HUU : Hid (U = 0 ∨ U = 3) := by
    show _ ∨ _; rw [hU]; cases Pc.right W M N D
    · exact .inr rfl
    · exact .inl rfl
  clear hE1 hA1 hE2 hA2 hE3 hU hY
  go_enter Try.func8, Try.ntmps8
  go_wp2_with fail
  have K0 : Hid (Blk (w.alloc (.cells #[.int .i64 W, .int .i64 M, .int .i64 N, .int .i64 D] 64)) w.heap.size #[.int .i64 W, .int .i64 M, .int .i64 N, .int .i64 D] 64) := Blk.new _ _ _
  have B0 : Hid (Below w.heap.size w (w.alloc (.cells #[.int .i64 W, .int .i64 M, .int .i64 N, .int .i64 D] 64))) := (Below.refl _ _).alloc (Nat.le_refl _) _
  refine (HA.out _).mono ?_
  rintro e w1 ⟨rfl, hb⟩
  have K1 : Hid (Blk w1 w.heap.size #[.int .i64 W, .int .i64 M, .int .i64 N, .int .i64 D] 64) := K0.out.below hb K0.out.lt
  have B1 : Hid (Below w.heap.size w w1) := B0.out.trans (hb.mono B0.out.size)
  obtain ⟨k0, k1, k2, k3⟩ := K1.out.four
  clear hb K0 B0 HA
  go_wp2_with fail
  refine (HB.out _).mono ?_
  rintro e w2 ⟨rfl, hb⟩
  have K2 : Hid (Blk w2 w.heap.size #[.int .i64 W, .int .i64 M, .int .i64 N, .int .i64 D] 64) := K1.out.below hb K1.out.lt
  have B2 : Hid (Below w.heap.size w w2) := B1.out.trans (hb.mono B1.out.size)
  clear k0 k1 k2 k3
  obtain ⟨k0, k1, k2, k3⟩ := K2.out.four
  clear hb K1 B1 HB
  go_wp2_with fail
  refine (HT.out _).mono ?_
  rintro e w3 ⟨a, b, c, f, rfl, HV, hb⟩
  have K3 : Hid (Blk (w3.alloc (.cells #[.int .i64 a, .int .i64 b, .int .i64 c, .int .i64 f] 64)) w.heap.size #[.int .i64 W, .int .i64 M, .int .i64 N, .int .i64 D] 64) := (K2.out.below hb K2.out.lt).alloc _
  have J3 : Hid (Blk (w3.alloc (.cells #[.int .i64 a, .int .i64 b, .int .i64 c, .int .i64 f] 64)) w3.heap.size #[.int .i64 a, .int .i64 b, .int .i64 c, .int .i64 f] 64) := Blk.new _ _ _
  have B3 : Hid (Below w.heap.size w (w3.alloc (.cells #[.int .i64 a, .int .i64 b, .int .i64 c, .int .i64 f] 64))) := (B2.out.trans (hb.mono B2.out.size)).alloc (B2.out.trans (hb.mono B2.out.size)).size _
  have hlt : w.heap.size < w3.heap.size := (K2.out.below hb K2.out.lt).lt
  clear hb K2 B2 HT k0 k1 k2 k3
  obtain ⟨k0, k1, k2, k3⟩ := K3.out.four
  go_wp2_with fail
  refine (HC.out _).mono ?_
  rintro e w4 ⟨rfl, hb⟩
  have K4 : Hid (Blk w4 w.heap.size #[.int .i64 W, .int .i64 M, .int .i64 N, .int .i64 D] 64) := K3.out.below hb K3.out.lt
  have J4 : Hid (Blk w4 w3.heap.size #[.int .i64 a, .int .i64 b, .int .i64 c, .int .i64 f] 64) := J3.out.below hb J3.out.lt
  have B4 : Hid (Below w.heap.size w w4) := B3.out.trans (hb.mono B3.out.size)
  clear hb K3 J3 B3 HC k0 k1 k2 k3
  obtain ⟨k0, k1, k2, k3⟩ := K4.out.four
  obtain ⟨C1, hC1⟩ : ∃ C : Bool, C = decide (U = 0 ∧ (x < W ∨ 1000000 < x)) := ⟨_, rfl⟩
  obtain ⟨C2, hC2⟩ : ∃ C : Bool, C = decide (U = 0 ∧ (m < M ∨ 1000000 < m)) := ⟨_, rfl⟩
  obtain ⟨C3, hC3⟩ : ∃ C : Bool, C = decide (E1 = 0 ∧ (n < 1 ∨ 100 < n ∨ d < 1 ∨ 100 < d)) := ⟨_, rfl⟩
  have HC1 : Hid (C1 = decide (U = 0 ∧ (x < W ∨ 1000000 < x))) := hC1
  have HC2 : Hid (C2 = decide (U = 0 ∧ (m < M ∨ 1000000 < m))) := hC2
  have HC3 : Hid (C3 = decide (E1 = 0 ∧ (n < 1 ∨ 100 < n ∨ d < 1 ∨ 100 < d))) := hC3
  clear hC1 hC2 hC3
  go_upto_region 6 with fail
  go_cut [60] (fun s60 wc => s60 = .bool C1 ∧ wc = w4)
  case first =>
    by_cases hU0 : U = 0
    · subst hU0
      by_cases h1 : x < W
      · have hc : C1 = true := by rw [HC1.out]; exact decide_eq_true ⟨rfl, .inl h1⟩
        go_wp2_with fail
        go_meet
        case rel => exact ⟨by rw [hc], rfl⟩
      · by_cases h2 : 1000000 < x
        · have hc : C1 = true := by rw [HC1.out]; exact decide_eq_true ⟨rfl, .inr h2⟩
          go_wp2_with fail
          go_meet
          case rel => exact ⟨by rw [hc], rfl⟩
        · have hc : C1 = false := by rw [HC1.out]; exact decide_eq_false (by omega)
          go_wp2_with fail
          go_meet
          case rel => exact ⟨by rw [hc], rfl⟩
    · have hc : C1 = false := by rw [HC1.out]; exact decide_eq_false (by omega)
      go_wp2_with fail
      go_meet
      case rel => exact ⟨by rw [hc], rfl⟩
  case rest =>
    obtain ⟨rfl, rfl⟩ := hcut
    go_upto_if 60 with fail
    go_cut [18, 20] (fun s18 s20 wc2 => s18 = .int .i64 E1 ∧ s20 = .int .i64 E1 ∧ wc2 = wc)
    case first =>
      cases C1
      · have hc : E1 = U := by
          have h := of_decide_eq_false HC1.out.symm
          rcases HUU.out with hu | hu
          · rw [HE1.out.1 (by omega), hu]
          · rw [(HE1.out.2 (by omega)).1, hu]
        go_wp2_with fail
        go_meet
        case rel => exact ⟨by rw [hc], by rw [hc], rfl⟩
      · have hc : E1 = 3 := (HE1.out.2 (by have h := of_decide_eq_true HC1.out.symm; omega)).1
        go_wp2_with fail
        go_meet
        case rel => exact ⟨by rw [hc], by rw [hc], rfl⟩
    case rest =>
      obtain ⟨rfl, rfl, rfl⟩ := hcut
      go_upto_region 8 with fail
      go_cut [72] (fun s72 wd => s72 = .bool C2 ∧ wd = wc)
      case first =>
        by_cases hU0 : U = 0
        · subst hU0
          by_cases h1 : m < M
          · have hc : C2 = true := by rw [HC2.out]; exact decide_eq_true ⟨rfl, .inl h1⟩
            go_wp2_with fail
            go_meet
            case rel => exact ⟨by rw [hc], rfl⟩
          · by_cases h2 : 1000000 < m
            · have hc : C2 = true := by rw [HC2.out]; exact decide_eq_true ⟨rfl, .inr h2⟩
              go_wp2_with fail
              go_meet
              case rel => exact ⟨by rw [hc], rfl⟩
            · have hc : C2 = false := by rw [HC2.out]; exact decide_eq_false (by omega)
              go_wp2_with fail
              go_meet
              case rel => exact ⟨by rw [hc], rfl⟩
        · have hc : C2 = false := by rw [HC2.out]; exact decide_eq_false (by omega)
          go_wp2_with fail
          go_meet
          case rel => exact ⟨by rw [hc], rfl⟩
      case rest =>
        obtain ⟨rfl, rfl⟩ := hcut
        go_upto_if 72 with fail
        go_cut [19] (fun s19 we => s19 = .int .i64 E2 ∧ we = wc)
        case first =>
          cases C2
          · have hc : E2 = U := by
              have h := of_decide_eq_false HC2.out.symm
              rcases HUU.out with hu | hu
              · rw [HE2.out.1 (by omega), hu]
              · rw [(HE2.out.2 (by omega)).1, hu]
            go_wp2_with fail
            go_meet
            case rel => exact ⟨by rw [hc], rfl⟩
          · have hc : E2 = 3 := (HE2.out.2 (by have h := of_decide_eq_true HC2.out.symm; omega)).1
            go_wp2_with fail
            go_meet
            case rel => exact ⟨by rw [hc], rfl⟩
        case rest =>
          obtain ⟨rfl, rfl⟩ := hcut
          go_upto_region 10 with fail
          go_cut [90] (fun s90 wf => s90 = .bool C3 ∧ wf = wc)
          case first =>
            by_cases hU0 : E1 = 0
            · have HC3' : Hid (C3 = decide (n < 1 ∨ 100 < n ∨ d < 1 ∨ 100 < d)) := by show _ = _; rw [HC3.out]; simp [hU0]
              clear HC3
              subst hU0
              by_cases h1 : n < 1
              · have hc : C3 = true := by rw [HC3'.out]; exact decide_eq_true (by omega)
                go_wp2_with fail
                go_meet
                case rel => exact ⟨by rw [hc], rfl⟩
              by_cases h2 : 100 < n
              · have hc : C3 = true := by rw [HC3'.out]; exact decide_eq_true (by omega)
                go_wp2_with fail
                go_meet
                case rel => exact ⟨by rw [hc], rfl⟩
              by_cases h3 : d < 1
              · have hc : C3 = true := by rw [HC3'.out]; exact decide_eq_true (by omega)
                go_wp2_with fail
                go_meet
                case rel => exact ⟨by rw [hc], rfl⟩
              by_cases h4 : 100 < d
              · have hc : C3 = true := by rw [HC3'.out]; exact decide_eq_true (by omega)
                go_wp2_with fail
                go_meet
                case rel => exact ⟨by rw [hc], rfl⟩
              have hc : C3 = false := by rw [HC3'.out]; exact decide_eq_false (by omega)
              go_wp2_with fail
              go_meet
              case rel => exact ⟨by rw [hc], rfl⟩
            · have hc : C3 = false := by rw [HC3.out]; exact decide_eq_false (by omega)
              go_wp2_with fail
              go_meet
              case rel => exact ⟨by rw [hc], rfl⟩
          case rest =>
            obtain ⟨rfl, rfl⟩ := hcut
            go_upto_if 90 with fail
            go_cut [20] (fun s20 wg => s20 = .int .i64 Y ∧ wg = wc)
            case first =>
              cases C3
              · have hc : Y = E1 := by
                  have h := of_decide_eq_false HC3.out.symm
                  by_cases h0 : E1 = 0
                  · rw [HYY.out.1 (by omega), h0]
                  · have := HYY.out.2 (by omega)
                    have h3 : E1 = 3 := by
                      by_cases hq : U = 0 ∧ W ≤ x ∧ x ≤ 1000000
                      · exact absurd (HE1.out.1 hq) h0
                      · exact (HE1.out.2 hq).1
                    omega
                go_wp2_with fail
                go_meet
                case rel => exact ⟨by rw [hc], rfl⟩
              · have hc : Y = 3 := HYY.out.2 (by have h := of_decide_eq_true HC3.out.symm; omega)
                go_wp2_with fail
                go_meet
                case rel => exact ⟨by rw [hc], rfl⟩
            case rest =>
              obtain ⟨rfl, rfl⟩ := hcut
              have HX : Hid (E1 = 0 ∨ E1 = 3 ∧ A1 = 0) := by
                show _ ∨ _
                by_cases hq : U = 0 ∧ W ≤ x ∧ x ≤ 1000000
                · exact .inl (HE1.out.1 hq)
                · exact .inr (HE1.out.2 hq)
              have HX2 : Hid (E2 = 0 ∨ E2 = 3 ∧ A2 = 0) := by
                show _ ∨ _
                by_cases hq : U = 0 ∧ M ≤ m ∧ m ≤ 1000000
                · exact .inl (HE2.out.1 hq)
                · exact .inr (HE2.out.2 hq)
              have HYD : Hid (Y = 0 ∨ Y = 3) := by
                show _ ∨ _
                by_cases hq : E1 = 0 ∧ 1 ≤ n ∧ n ≤ 100 ∧ 1 ≤ d ∧ d ≤ 100
                · exact .inl (HYY.out.1 hq)
                · exact .inr (HYY.out.2 hq)
              clear HC1 HC2 HC3 HE1 HE2 HYY HUU k0 k1 k2 k3
              go_upto_if 92 with fail
              have K5 : Hid (Blk (wc.alloc (.cells #[.int .i64 0, .int .i64 0, .int .i64 0, .int .i64 0] 64)) w.heap.size #[.int .i64 W, .int .i64 M, .int .i64 N, .int .i64 D] 64) := K4.out.alloc _
              have J5 : Hid (Blk (wc.alloc (.cells #[.int .i64 0, .int .i64 0, .int .i64 0, .int .i64 0] 64)) w3.heap.size #[.int .i64 a, .int .i64 b, .int .i64 c, .int .i64 f] 64) := J4.out.alloc _
              have Q5 : Hid (Blk (wc.alloc (.cells #[.int .i64 0, .int .i64 0, .int .i64 0, .int .i64 0] 64)) wc.heap.size #[.int .i64 0, .int .i64 0, .int .i64 0, .int .i64 0] 64) := Blk.new _ _ _
              have B5 : Hid (Below w.heap.size w (wc.alloc (.cells #[.int .i64 0, .int .i64 0, .int .i64 0, .int .i64 0] 64))) := B4.out.alloc B4.out.size _
              obtain ⟨g, hg⟩ : ∃ g, g = wc.heap.size := ⟨_, rfl⟩
              have hlt2 : w3.heap.size < g := by rw [hg]; exact J4.out.lt
              rw [← hg] at Q5 ⊢
              obtain ⟨V, hV⟩ : ∃ V, V = wc.alloc (.cells #[.int .i64 0, .int .i64 0, .int .i64 0, .int .i64 0] 64) := ⟨_, rfl⟩
              rw [← hV] at K5 J5 Q5 B5 ⊢
              clear hV hg K4 J4 B4
              go_cut [21] (fun s21 wh => s21 = .int .i64 A1 ∧ Hid (Blk wh w.heap.size #[.int .i64 W, .int .i64 M, .int .i64 N, .int .i64 D] 64) ∧ Hid (Blk wh w3.heap.size #[.int .i64 a, .int .i64 b, .int .i64 c, .int .i64 f] 64) ∧ Hid (Blk wh g #[.int .i64 0, .int .i64 0, .int .i64 0, .int .i64 0] 64) ∧ Hid (Below w.heap.size w wh))
              case first =>
                by_cases h0 : E1 = 0
                · have HM2 : Hid (∀ w' : World, Calls Try.prog 34 #[.agg #[.int .i64 W, .int .i64 M, .int .i64 N, .int .i64 D], .int .i64 x] w' fun e w'' => e = .returned (.int .i64 A1) ∧ Below w'.heap.size w' w'') := HM.out h0
                  clear HM
                  subst h0
                  obtain ⟨k0, k1, k2, k3⟩ := K5.out.four
                  go_wp2_with fail
                  refine (HM2.out _).mono ?_
                  rintro e w6 ⟨rfl, hb⟩
                  go_wp2_with fail
                  go_meet
                  case rel => exact ⟨rfl, K5.out.below hb K5.out.lt, J5.out.below hb J5.out.lt, Q5.out.below hb Q5.out.lt, B5.out.trans (hb.mono B5.out.size)⟩
                · have hc : A1 = 0 := by rcases HX.out with h | h; exact absurd h h0; exact h.2
                  go_wp2_with fail
                  go_meet
                  case rel => exact ⟨by rw [hc], K5, J5, Q5, B5⟩
              case rest =>
                obtain ⟨rfl, K6, J6, Q6, B6⟩ := hcut
                clear K5 J5 Q5 B5
                go_upto_if 97 with fail
                go_cut [22] (fun s22 wi => s22 = .int .i64 A2 ∧ Hid (Blk wi w.heap.size #[.int .i64 W, .int .i64 M, .int .i64 N, .int .i64 D] 64) ∧ Hid (Blk wi w3.heap.size #[.int .i64 a, .int .i64 b, .int .i64 c, .int .i64 f] 64) ∧ Hid (Blk wi g #[.int .i64 0, .int .i64 0, .int .i64 0, .int .i64 0] 64) ∧ Hid (Below w.heap.size w wi))
                case first =>
                  by_cases h0 : E2 = 0
                  · have HM2 : Hid (∀ w' : World, Calls Try.prog 35 #[.agg #[.int .i64 W, .int .i64 M, .int .i64 N, .int .i64 D], .int .i64 m] w' fun e w'' => e = .returned (.int .i64 A2) ∧ Below w'.heap.size w' w'') := HW.out h0
                    clear HW
                    subst h0
                    obtain ⟨k0, k1, k2, k3⟩ := K6.out.four
                    go_wp2_with fail
                    refine (HM2.out _).mono ?_
                    rintro e w7 ⟨rfl, hb⟩
                    go_wp2_with fail
                    go_meet
                    case rel => exact ⟨rfl, K6.out.below hb K6.out.lt, J6.out.below hb J6.out.lt, Q6.out.below hb Q6.out.lt, B6.out.trans (hb.mono B6.out.size)⟩
                  · have hc : A2 = 0 := by rcases HX2.out with h | h; exact absurd h h0; exact h.2
                    go_wp2_with fail
                    go_meet
                    case rel => exact ⟨by rw [hc], K6, J6, Q6, B6⟩
                case rest =>
                  obtain ⟨rfl, K7, J7, Q7, B7⟩ := hcut
                  clear K6 J6 Q6 B6 HM HW
                  by_cases hY0 : Y = 0
                  · obtain ⟨hA1, hE2, hE0⟩ := HE3.out.1 hY0
                    subst hY0
                    obtain ⟨q0, q1, q2, q3⟩ := Q7.out.four
                    have fr := Q7.out.free
                    by_cases hgt : 1000000 < A1
                    · have hE : E3 = 2 := hE2 hgt
                      obtain ⟨rfl, rfl, rfl, rfl⟩ := HV.out.2 (by omega)
                      subst hE
                      clear hE2 hE0 HE3 HV hA1
                      go_wp2_with fail
                      refine (paceBegun_any _).mono ?_
                      rintro e w8 ⟨rfl, hb⟩
                      have q9 := (Q7.out.set4 (.int .i64 x) (.int .i64 A1) (.int .i64 n) (.int .i64 d)).set4 (.int .i64 0) (.int .i64 0) (.int .i64 0) (.int .i64 0)
                      have j9 := (J7.out.other4 (g := g) (by omega) (.int .i64 x) (.int .i64 A1) (.int .i64 n) (.int .i64 d)).other4 (g := g) (by omega) (.int .i64 0) (.int .i64 0) (.int .i64 0) (.int .i64 0)
                      have b9 := below4 (g := g) (below4 (g := g) B7.out (by omega) (.int .i64 x) (.int .i64 A1) (.int .i64 n) (.int .i64 d)) (by omega) (.int .i64 0) (.int .i64 0) (.int .i64 0) (.int .i64 0)
                      clear q0 q1 q2 q3 fr
                      obtain ⟨q0, q1, q2, q3⟩ := (q9.below hb q9.lt).four
                      obtain ⟨j0, j1, j2, j3⟩ := (j9.below hb j9.lt).four
                      have B8 : Hid (Below w.heap.size w w8) := b9.trans (hb.mono b9.size)
                      have hq := fun W => eql_pace 0 0 0 0 0 0 0 0 W
                      clear hb K7 J7 Q7 B7 q9 j9 b9 HX HX2 HYD
                      go_wp2
                      go_ret
                      exact ⟨rfl, B8.out⟩
                    · have hE : E3 = 0 := hE0 (by omega)
                      obtain ⟨rfl, hbm, rfl, rfl⟩ := HV.out.1 hE
                      have hb1 : b = A1 := by rw [hbm, hA1]
                      subst hb1
                      subst hE
                      clear hE2 hE0 HE3 HV hA1 hbm
                      go_wp2_with fail
                      refine (paceBegun_any _).mono ?_
                      rintro e w8 ⟨rfl, hb⟩
                      have q9 := Q7.out.set4 (.int .i64 a) (.int .i64 b) (.int .i64 c) (.int .i64 f)
                      have j9 := J7.out.other4 (g := g) (by omega) (.int .i64 a) (.int .i64 b) (.int .i64 c) (.int .i64 f)
                      have b9 := below4 (g := g) B7.out (by omega) (.int .i64 a) (.int .i64 b) (.int .i64 c) (.int .i64 f)
                      clear q0 q1 q2 q3 fr
                      obtain ⟨q0, q1, q2, q3⟩ := (q9.below hb q9.lt).four
                      obtain ⟨j0, j1, j2, j3⟩ := (j9.below hb j9.lt).four
                      have B8 : Hid (Below w.heap.size w w8) := b9.trans (hb.mono b9.size)
                      have hq := fun W => eql_pace a b c f a b c f W
                      clear hb K7 J7 Q7 B7 q9 j9 b9 HX HX2 HYD
                      go_wp2
                      go_ret
                      exact ⟨rfl, B8.out⟩
                  · have hE : E3 = 3 := HE3.out.2 hY0
                    have hY3 : Y = 3 := by rcases HYD.out with h | h; exact absurd h hY0; exact h
                    obtain ⟨rfl, rfl, rfl, rfl⟩ := HV.out.2 (by omega)
                    subst hE hY3
                    clear HE3 HV HX HX2 HYD hY0
                    go_wp2_with fail
                    refine (paceBegun_any _).mono ?_
                    rintro e w8 ⟨rfl, hb⟩
                    obtain ⟨q0, q1, q2, q3⟩ := (Q7.out.below hb Q7.out.lt).four
                    obtain ⟨j0, j1, j2, j3⟩ := (J7.out.below hb J7.out.lt).four
                    have B8 : Hid (Below w.heap.size w w8) := B7.out.trans (hb.mono B7.out.size)
                    have hq := fun W => eql_pace 0 0 0 0 0 0 0 0 W
                    clear hb K7 J7 Q7 B7
                    go_wp2
                    go_ret
                    exact ⟨rfl, B8.out⟩

end Go.Proofs.Ytfihnceeonffoad
