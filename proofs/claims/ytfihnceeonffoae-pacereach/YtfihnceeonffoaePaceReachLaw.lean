/-
  The walk of switchbacklaw.PaceReach.
-/
import Derived.Test.YtfihnceeonffoaePaceTurnsLaw
namespace Go.Proofs.Ytfihnceeonffoae
open Go.RowKit

set_option maxHeartbeats 4000000 in
theorem paceReach_any (W M N D x m : Int) (w : World) :
    Calls Try.prog 3 #[.agg #[.int .i64 W, .int .i64 M, .int .i64 N, .int .i64 D], .int .i64 x, .int .i64 m] w fun e w' => e = .returned (.bool true) ∧ Below w.heap.size w w' := by
  obtain ⟨E, hE⟩ : ∃ E, E = Pc.walE W M N D m := ⟨_, rfl⟩
  obtain ⟨A, hA⟩ : ∃ A, A = Pc.walN W M N D m := ⟨_, rfl⟩
  have HW : Hid (∀ w' : World, Calls Try.prog 6 #[.agg #[.int .i64 W, .int .i64 M, .int .i64 N, .int .i64 D], .int .i64 m] w' fun e w'' => e = .returned (.tuple #[.int .i64 A, .int .i64 E]) ∧ Below w'.heap.size w' w'') := fun w' => by
    rw [hE, hA]; exact wall_any _ _ _ _ _ _
  have HV : Hid (E = 0 → Pc.right W M N D = true ∧ M ≤ m ∧ m ≤ 1000000 ∧ W ≤ A ∧ A = Pc.wal W M N D m) := fun h => by
    rw [hE] at h
    unfold Pc.walE at h
    by_cases hc : (Pc.right W M N D && Pc.inB m M 1000000) = true
    · have hA2 : A = Pc.wal W M N D m := by rw [hA]; unfold Pc.walN; rw [if_pos hc]
      simp only [Bool.and_eq_true] at hc
      have hm : M ≤ m ∧ m ≤ 1000000 := by simpa [Pc.inB] using hc.2
      obtain ⟨p1, p2, p3, p4, p5, p6, p7, p8⟩ := Pc.right_iff.1 hc.1
      exact ⟨hc.1, hm.1, hm.2, by rw [hA2]; exact Pc.wal_ge (by omega) (by omega) hm.1, hA2⟩
    · rw [if_neg hc] at h; cases h
  clear hE hA
  -- the end: two neighbours
  have HEND : Hid (∀ e1 e2 a b : Int, e1 = Pc.medE W M N D x → e2 = Pc.medE W M N D (RowKit.wrap64 (x + 1)) → a = Pc.medN W M N D x → b = Pc.medN W M N D (RowKit.wrap64 (x + 1)) → e1 = 0 → e2 = 0 → a ≤ b ∧ M ≤ a) := fun e1 e2 a b h1 h2 h3 h4 z1 z2 => by
    have key : ∀ y, Pc.medE W M N D y = 0 → Pc.right W M N D = true ∧ W ≤ y ∧ y ≤ 1000000 ∧ Pc.medN W M N D y = Pc.med W M N D y := fun y hy => by
      unfold Pc.medE at hy
      by_cases hc : (Pc.right W M N D && Pc.inB y W 1000000) = true
      · have hn : Pc.medN W M N D y = Pc.med W M N D y := by unfold Pc.medN; rw [if_pos hc]
        simp only [Bool.and_eq_true] at hc
        have hm : W ≤ y ∧ y ≤ 1000000 := by simpa [Pc.inB] using hc.2
        exact ⟨hc.1, hm.1, hm.2, hn⟩
      · rw [if_neg hc] at hy; cases hy
    obtain ⟨r1, r2, r3, r4⟩ := key x (by rw [← h1]; exact z1)
    obtain ⟨_, _, _, s4⟩ := key _ (by rw [← h2]; exact z2)
    obtain ⟨p1, p2, p3, p4, p5, p6, p7, p8⟩ := Pc.right_iff.1 r1
    have hw : RowKit.wrap64 (x + 1) = x + 1 := by unfold RowKit.wrap64; omega
    rw [h3, h4, r4, s4, hw]
    exact ⟨Pc.med_mono (by omega) (by omega) (by omega), Pc.med_ge (by omega) (by omega) r2⟩
  go_enter Try.func3, Try.ntmps3
  go_wp2_with fail
  have K0 : Hid (Blk (w.alloc (.cells #[.int .i64 W, .int .i64 M, .int .i64 N, .int .i64 D] 23)) w.heap.size #[.int .i64 W, .int .i64 M, .int .i64 N, .int .i64 D] 23) := Blk.new _ _ _
  have B0 : Hid (Below w.heap.size w (w.alloc (.cells #[.int .i64 W, .int .i64 M, .int .i64 N, .int .i64 D] 23))) := (Below.refl _ _).alloc (Nat.le_refl _) _
  refine (paceBegun_any _).mono ?_
  rintro e w1 ⟨rfl, hb1⟩
  have K1 : Hid (Blk w1 w.heap.size #[.int .i64 W, .int .i64 M, .int .i64 N, .int .i64 D] 23) := K0.out.below hb1 K0.out.lt
  have B1 : Hid (Below w.heap.size w w1) := B0.out.trans (hb1.mono B0.out.size)
  obtain ⟨k0, k1, k2, k3⟩ := K1.out.four
  clear hb1 K0 B0
  go_wp2_with fail
  refine (HW.out _).mono ?_
  rintro e w2 ⟨rfl, hb2⟩
  have K2 : Hid (Blk w2 w.heap.size #[.int .i64 W, .int .i64 M, .int .i64 N, .int .i64 D] 23) := K1.out.below hb2 K1.out.lt
  have B2 : Hid (Below w.heap.size w w2) := B1.out.trans (hb2.mono B1.out.size)
  clear k0 k1 k2 k3 hb2 K1 B1 HW
  by_cases hE0 : E = 0
  case neg =>
    obtain ⟨k0, k1, k2, k3⟩ := K2.out.four
    obtain ⟨e1, he1⟩ : ∃ e1, e1 = Pc.medE W M N D x := ⟨_, rfl⟩
    obtain ⟨e2, he2⟩ : ∃ e2, e2 = Pc.medE W M N D (RowKit.wrap64 (x + 1)) := ⟨_, rfl⟩
    obtain ⟨a, ha⟩ : ∃ a, a = Pc.medN W M N D x := ⟨_, rfl⟩
    obtain ⟨b, hb⟩ : ∃ b, b = Pc.medN W M N D (RowKit.wrap64 (x + 1)) := ⟨_, rfl⟩
    have HE : Hid (e1 = 0 → e2 = 0 → a ≤ b ∧ M ≤ a) := HEND.out e1 e2 a b he1 he2 ha hb
    have HN1 : Hid (∀ w' : World, Calls Try.prog 7 #[.agg #[.int .i64 W, .int .i64 M, .int .i64 N, .int .i64 D], .int .i64 x] w' fun e w'' => e = .returned (.tuple #[.int .i64 a, .int .i64 e1]) ∧ Below w'.heap.size w' w'') := fun w' => by
      rw [ha, he1]; exact media_any _ _ _ _ _ _
    have HN2 : Hid (∀ w' : World, Calls Try.prog 7 #[.agg #[.int .i64 W, .int .i64 M, .int .i64 N, .int .i64 D], .int .i64 (RowKit.wrap64 (x + 1))] w' fun e w'' => e = .returned (.tuple #[.int .i64 b, .int .i64 e2]) ∧ Below w'.heap.size w' w'') := fun w' => by
      rw [hb, he2]; exact media_any _ _ _ _ _ _
    clear he1 he2 ha hb HEND
    go_wp2_with fail
    refine (HN1.out _).mono ?_
    rintro e x3 ⟨rfl, hc3⟩
    have U3 : Hid (Blk x3 w.heap.size #[.int .i64 W, .int .i64 M, .int .i64 N, .int .i64 D] 23) := K2.out.below hc3 K2.out.lt
    have V3 : Hid (Below w.heap.size w x3) := B2.out.trans (hc3.mono B2.out.size)
    clear k0 k1 k2 k3 hc3 HN1 K2 B2
    obtain ⟨k0, k1, k2, k3⟩ := U3.out.four
    go_wp2_with fail
    refine (HN2.out _).mono ?_
    rintro e x4 ⟨rfl, hc4⟩
    have U4 : Hid (Blk x4 w.heap.size #[.int .i64 W, .int .i64 M, .int .i64 N, .int .i64 D] 23) := U3.out.below hc4 U3.out.lt
    have V4 : Hid (Below w.heap.size w x4) := V3.out.trans (hc4.mono V3.out.size)
    clear k0 k1 k2 k3 hc4 HN2 U3 V3
    obtain ⟨k0, k1, k2, k3⟩ := U4.out.four
    by_cases h1 : e1 = 0
    · by_cases h2 : e2 = 0
      · obtain ⟨u1, u2⟩ := HE.out h1 h2
        subst h1 h2
        go_wp2
        go_ret
        exact ⟨rfl, V4.out⟩
      · subst h1
        go_wp2
        go_ret
        exact ⟨rfl, V4.out⟩
    · go_wp2
      go_ret
      exact ⟨rfl, V4.out⟩
  obtain ⟨hR, hm1, hm2, hA1, hA2⟩ := HV.out hE0
  subst hE0
  by_cases hA3 : A ≤ 1000000
  case neg =>
    obtain ⟨k0, k1, k2, k3⟩ := K2.out.four
    obtain ⟨e1, he1⟩ : ∃ e1, e1 = Pc.medE W M N D x := ⟨_, rfl⟩
    obtain ⟨e2, he2⟩ : ∃ e2, e2 = Pc.medE W M N D (RowKit.wrap64 (x + 1)) := ⟨_, rfl⟩
    obtain ⟨a, ha⟩ : ∃ a, a = Pc.medN W M N D x := ⟨_, rfl⟩
    obtain ⟨b, hb⟩ : ∃ b, b = Pc.medN W M N D (RowKit.wrap64 (x + 1)) := ⟨_, rfl⟩
    have HE : Hid (e1 = 0 → e2 = 0 → a ≤ b ∧ M ≤ a) := HEND.out e1 e2 a b he1 he2 ha hb
    have HN1 : Hid (∀ w' : World, Calls Try.prog 7 #[.agg #[.int .i64 W, .int .i64 M, .int .i64 N, .int .i64 D], .int .i64 x] w' fun e w'' => e = .returned (.tuple #[.int .i64 a, .int .i64 e1]) ∧ Below w'.heap.size w' w'') := fun w' => by
      rw [ha, he1]; exact media_any _ _ _ _ _ _
    have HN2 : Hid (∀ w' : World, Calls Try.prog 7 #[.agg #[.int .i64 W, .int .i64 M, .int .i64 N, .int .i64 D], .int .i64 (RowKit.wrap64 (x + 1))] w' fun e w'' => e = .returned (.tuple #[.int .i64 b, .int .i64 e2]) ∧ Below w'.heap.size w' w'') := fun w' => by
      rw [hb, he2]; exact media_any _ _ _ _ _ _
    clear he1 he2 ha hb HEND
    go_wp2_with fail
    refine (HN1.out _).mono ?_
    rintro e x3 ⟨rfl, hc3⟩
    have U3 : Hid (Blk x3 w.heap.size #[.int .i64 W, .int .i64 M, .int .i64 N, .int .i64 D] 23) := K2.out.below hc3 K2.out.lt
    have V3 : Hid (Below w.heap.size w x3) := B2.out.trans (hc3.mono B2.out.size)
    clear k0 k1 k2 k3 hc3 HN1 K2 B2
    obtain ⟨k0, k1, k2, k3⟩ := U3.out.four
    go_wp2_with fail
    refine (HN2.out _).mono ?_
    rintro e x4 ⟨rfl, hc4⟩
    have U4 : Hid (Blk x4 w.heap.size #[.int .i64 W, .int .i64 M, .int .i64 N, .int .i64 D] 23) := U3.out.below hc4 U3.out.lt
    have V4 : Hid (Below w.heap.size w x4) := V3.out.trans (hc4.mono V3.out.size)
    clear k0 k1 k2 k3 hc4 HN2 U3 V3
    obtain ⟨k0, k1, k2, k3⟩ := U4.out.four
    by_cases h1 : e1 = 0
    · by_cases h2 : e2 = 0
      · obtain ⟨u1, u2⟩ := HE.out h1 h2
        subst h1 h2
        go_wp2
        go_ret
        exact ⟨rfl, V4.out⟩
      · subst h1
        go_wp2
        go_ret
        exact ⟨rfl, V4.out⟩
    · go_wp2
      go_ret
      exact ⟨rfl, V4.out⟩
  obtain ⟨p1, p2, p3, p4, p5, p6, p7, p8⟩ := Pc.right_iff.1 hR
  have g1 : Pc.medE W M N D A = 0 := by unfold Pc.medE; rw [hR, show Pc.inB A W 1000000 = true by simp [Pc.inB]; omega]; rfl
  have g2 : Pc.medN W M N D A = Pc.med W M N D A := by unfold Pc.medN; rw [hR, show Pc.inB A W 1000000 = true by simp [Pc.inB]; omega]; rfl
  have g3 : m ≤ Pc.med W M N D A := (Pc.reach (by omega) (by omega)).2 (by omega)
  have HM1 : Hid (∀ w' : World, Calls Try.prog 7 #[.agg #[.int .i64 W, .int .i64 M, .int .i64 N, .int .i64 D], .int .i64 A] w' fun e w'' => e = .returned (.tuple #[.int .i64 (Pc.med W M N D A), .int .i64 0]) ∧ Below w'.heap.size w' w'') := fun w' => by
    have h := media_any W M N D A w'
    rw [g1, g2] at h; exact h
  have HM2 : Hid (W < A → ∃ C : Int, C < m ∧ ∀ w' : World, Calls Try.prog 7 #[.agg #[.int .i64 W, .int .i64 M, .int .i64 N, .int .i64 D], .int .i64 (A - 1)] w' fun e w'' => e = .returned (.tuple #[.int .i64 C, .int .i64 0]) ∧ Below w'.heap.size w' w'') := fun hlt => by
    refine ⟨Pc.med W M N D (A - 1), ?_, fun w' => ?_⟩
    · have := (Pc.reach (W := W) (M := M) (N := N) (D := D) (m := A - 1) (x := m) (by omega) (by omega)).1
      by_cases h : m ≤ Pc.med W M N D (A - 1)
      · have := this h; omega
      · omega
    · have h := media_any W M N D (A - 1) w'
      rw [show Pc.medE W M N D (A - 1) = 0 by unfold Pc.medE; rw [hR, show Pc.inB (A - 1) W 1000000 = true by simp [Pc.inB]; omega]; rfl, show Pc.medN W M N D (A - 1) = Pc.med W M N D (A - 1) by unfold Pc.medN; rw [hR, show Pc.inB (A - 1) W 1000000 = true by simp [Pc.inB]; omega]; rfl] at h
      exact h
  generalize Pc.med W M N D A = G at *
  clear g1 g2 hR hA2 HV
  obtain ⟨k0, k1, k2, k3⟩ := K2.out.four
  go_wp2_with fail
  refine (HM1.out _).mono ?_
  rintro e w3 ⟨rfl, hb3⟩
  have K3 : Hid (Blk w3 w.heap.size #[.int .i64 W, .int .i64 M, .int .i64 N, .int .i64 D] 23) := K2.out.below hb3 K2.out.lt
  have B3 : Hid (Below w.heap.size w w3) := B2.out.trans (hb3.mono B2.out.size)
  clear k0 k1 k2 k3 hb3 HM1 K2 B2
  obtain ⟨k0, k1, k2, k3⟩ := K3.out.four
  by_cases hlt : W < A
  · obtain ⟨C, hC, hM⟩ := HM2.out hlt
    have HM3 : Hid (∀ w' : World, Calls Try.prog 7 #[.agg #[.int .i64 W, .int .i64 M, .int .i64 N, .int .i64 D], .int .i64 (A - 1)] w' fun e w'' => e = .returned (.tuple #[.int .i64 C, .int .i64 0]) ∧ Below w'.heap.size w' w'') := hM
    clear hM HM2
    go_wp2_with fail
    refine (HM3.out _).mono ?_
    rintro e w4 ⟨rfl, hb4⟩
    have K4 : Hid (Blk w4 w.heap.size #[.int .i64 W, .int .i64 M, .int .i64 N, .int .i64 D] 23) := K3.out.below hb4 K3.out.lt
    have B4 : Hid (Below w.heap.size w w4) := B3.out.trans (hb4.mono B3.out.size)
    clear k0 k1 k2 k3 hb4 HM3 K3 B3
    obtain ⟨k0, k1, k2, k3⟩ := K4.out.four
    obtain ⟨e1, he1⟩ : ∃ e1, e1 = Pc.medE W M N D x := ⟨_, rfl⟩
    obtain ⟨e2, he2⟩ : ∃ e2, e2 = Pc.medE W M N D (RowKit.wrap64 (x + 1)) := ⟨_, rfl⟩
    obtain ⟨a, ha⟩ : ∃ a, a = Pc.medN W M N D x := ⟨_, rfl⟩
    obtain ⟨b, hb⟩ : ∃ b, b = Pc.medN W M N D (RowKit.wrap64 (x + 1)) := ⟨_, rfl⟩
    have HE : Hid (e1 = 0 → e2 = 0 → a ≤ b ∧ M ≤ a) := HEND.out e1 e2 a b he1 he2 ha hb
    have HN1 : Hid (∀ w' : World, Calls Try.prog 7 #[.agg #[.int .i64 W, .int .i64 M, .int .i64 N, .int .i64 D], .int .i64 x] w' fun e w'' => e = .returned (.tuple #[.int .i64 a, .int .i64 e1]) ∧ Below w'.heap.size w' w'') := fun w' => by
      rw [ha, he1]; exact media_any _ _ _ _ _ _
    have HN2 : Hid (∀ w' : World, Calls Try.prog 7 #[.agg #[.int .i64 W, .int .i64 M, .int .i64 N, .int .i64 D], .int .i64 (RowKit.wrap64 (x + 1))] w' fun e w'' => e = .returned (.tuple #[.int .i64 b, .int .i64 e2]) ∧ Below w'.heap.size w' w'') := fun w' => by
      rw [hb, he2]; exact media_any _ _ _ _ _ _
    clear he1 he2 ha hb HEND
    go_wp2_with fail
    refine (HN1.out _).mono ?_
    rintro e x3 ⟨rfl, hc3⟩
    have U3 : Hid (Blk x3 w.heap.size #[.int .i64 W, .int .i64 M, .int .i64 N, .int .i64 D] 23) := K4.out.below hc3 K4.out.lt
    have V3 : Hid (Below w.heap.size w x3) := B4.out.trans (hc3.mono B4.out.size)
    clear k0 k1 k2 k3 hc3 HN1 K4 B4
    obtain ⟨k0, k1, k2, k3⟩ := U3.out.four
    go_wp2_with fail
    refine (HN2.out _).mono ?_
    rintro e x4 ⟨rfl, hc4⟩
    have U4 : Hid (Blk x4 w.heap.size #[.int .i64 W, .int .i64 M, .int .i64 N, .int .i64 D] 23) := U3.out.below hc4 U3.out.lt
    have V4 : Hid (Below w.heap.size w x4) := V3.out.trans (hc4.mono V3.out.size)
    clear k0 k1 k2 k3 hc4 HN2 U3 V3
    obtain ⟨k0, k1, k2, k3⟩ := U4.out.four
    by_cases h1 : e1 = 0
    · by_cases h2 : e2 = 0
      · obtain ⟨u1, u2⟩ := HE.out h1 h2
        subst h1 h2
        go_wp2
        go_ret
        exact ⟨rfl, V4.out⟩
      · subst h1
        go_wp2
        go_ret
        exact ⟨rfl, V4.out⟩
    · go_wp2
      go_ret
      exact ⟨rfl, V4.out⟩
  · skip
    obtain ⟨k0, k1, k2, k3⟩ := K3.out.four
    obtain ⟨e1, he1⟩ : ∃ e1, e1 = Pc.medE W M N D x := ⟨_, rfl⟩
    obtain ⟨e2, he2⟩ : ∃ e2, e2 = Pc.medE W M N D (RowKit.wrap64 (x + 1)) := ⟨_, rfl⟩
    obtain ⟨a, ha⟩ : ∃ a, a = Pc.medN W M N D x := ⟨_, rfl⟩
    obtain ⟨b, hb⟩ : ∃ b, b = Pc.medN W M N D (RowKit.wrap64 (x + 1)) := ⟨_, rfl⟩
    have HE : Hid (e1 = 0 → e2 = 0 → a ≤ b ∧ M ≤ a) := HEND.out e1 e2 a b he1 he2 ha hb
    have HN1 : Hid (∀ w' : World, Calls Try.prog 7 #[.agg #[.int .i64 W, .int .i64 M, .int .i64 N, .int .i64 D], .int .i64 x] w' fun e w'' => e = .returned (.tuple #[.int .i64 a, .int .i64 e1]) ∧ Below w'.heap.size w' w'') := fun w' => by
      rw [ha, he1]; exact media_any _ _ _ _ _ _
    have HN2 : Hid (∀ w' : World, Calls Try.prog 7 #[.agg #[.int .i64 W, .int .i64 M, .int .i64 N, .int .i64 D], .int .i64 (RowKit.wrap64 (x + 1))] w' fun e w'' => e = .returned (.tuple #[.int .i64 b, .int .i64 e2]) ∧ Below w'.heap.size w' w'') := fun w' => by
      rw [hb, he2]; exact media_any _ _ _ _ _ _
    clear he1 he2 ha hb HEND
    go_wp2_with fail
    refine (HN1.out _).mono ?_
    rintro e x3 ⟨rfl, hc3⟩
    have U3 : Hid (Blk x3 w.heap.size #[.int .i64 W, .int .i64 M, .int .i64 N, .int .i64 D] 23) := K3.out.below hc3 K3.out.lt
    have V3 : Hid (Below w.heap.size w x3) := B3.out.trans (hc3.mono B3.out.size)
    clear k0 k1 k2 k3 hc3 HN1 K3 B3
    obtain ⟨k0, k1, k2, k3⟩ := U3.out.four
    go_wp2_with fail
    refine (HN2.out _).mono ?_
    rintro e x4 ⟨rfl, hc4⟩
    have U4 : Hid (Blk x4 w.heap.size #[.int .i64 W, .int .i64 M, .int .i64 N, .int .i64 D] 23) := U3.out.below hc4 U3.out.lt
    have V4 : Hid (Below w.heap.size w x4) := V3.out.trans (hc4.mono V3.out.size)
    clear k0 k1 k2 k3 hc4 HN2 U3 V3
    obtain ⟨k0, k1, k2, k3⟩ := U4.out.four
    by_cases h1 : e1 = 0
    · by_cases h2 : e2 = 0
      · obtain ⟨u1, u2⟩ := HE.out h1 h2
        subst h1 h2
        go_wp2
        go_ret
        exact ⟨rfl, V4.out⟩
      · subst h1
        go_wp2
        go_ret
        exact ⟨rfl, V4.out⟩
    · go_wp2
      go_ret
      exact ⟨rfl, V4.out⟩

end Go.Proofs.Ytfihnceeonffoae
