/-
  The walk of switchbacklaw.PaceTurns.
-/
import Derived.Test.YtfihnceeonffoaePaceBegun
namespace Go.Proofs.Ytfihnceeonffoae
open Go.RowKit

theorem Pc.med_le {W M N D x : Int} (h : Pc.right W M N D = true) (h1 : W ≤ x) (h2 : x ≤ 1000000) : Pc.med W M N D x ≤ 101000000 := by
  obtain ⟨a1, a2, a3, a4, a5, a6, a7, a8⟩ := Pc.right_iff.1 h
  obtain ⟨p1, p2⟩ := Pc.mul_bound (a := x - W) (n := N) (A := 1000000) (B := 100) (by omega) (by omega) (by omega) (by omega)
  have q2 : (x - W) * N / D ≤ (x - W) * N := Int.ediv_le_self _ p1
  unfold Pc.med
  omega

set_option maxHeartbeats 4000000 in
theorem paceTurns_any (W M N D x y : Int) (w : World) :
    Calls Try.prog 4 #[.agg #[.int .i64 W, .int .i64 M, .int .i64 N, .int .i64 D], .int .i64 x, .int .i64 y] w fun e w' => e = .returned (.bool true) ∧ Below w.heap.size w w' := by
  obtain ⟨E, hE⟩ : ∃ E, E = Pc.turnE W M N D x N D := ⟨_, rfl⟩
  have HT : Hid (∀ w' : World, Calls Try.prog 8 #[.agg #[.int .i64 W, .int .i64 M, .int .i64 N, .int .i64 D], .int .i64 x, .int .i64 N, .int .i64 D] w' fun e w'' => ∃ a b c f, e = .returned (.tuple #[.agg #[.int .i64 a, .int .i64 b, .int .i64 c, .int .i64 f], .int .i64 E]) ∧ Hid ((E = 0 → a = x ∧ b = Pc.med W M N D x ∧ c = N ∧ f = D) ∧ (¬ E = 0 → a = 0 ∧ b = 0 ∧ c = 0 ∧ f = 0)) ∧ Below w'.heap.size w' w'') := fun w' => by
    refine (turn_any W M N D x N D w').mono ?_
    rw [← hE]
    rintro e w'' ⟨⟨a, b, c, f, rfl, h1, h2⟩, hb⟩
    exact ⟨a, b, c, f, rfl, ⟨h1, h2⟩, hb⟩
  have HE : Hid (E = Pc.turnE W M N D x N D) := hE
  clear hE
  go_enter Try.func4, Try.ntmps4
  go_wp2_with fail
  have K0 : Hid (Blk (w.alloc (.cells #[.int .i64 W, .int .i64 M, .int .i64 N, .int .i64 D] 23)) w.heap.size #[.int .i64 W, .int .i64 M, .int .i64 N, .int .i64 D] 23) := Blk.new _ _ _
  have B0 : Hid (Below w.heap.size w (w.alloc (.cells #[.int .i64 W, .int .i64 M, .int .i64 N, .int .i64 D] 23))) := (Below.refl _ _).alloc (Nat.le_refl _) _
  refine (HT.out _).mono ?_
  rintro e w1 ⟨a, b, c, f, rfl, HV, hb1⟩
  have K1 : Hid (Blk (w1.alloc (.cells #[.int .i64 a, .int .i64 b, .int .i64 c, .int .i64 f] 23)) w.heap.size #[.int .i64 W, .int .i64 M, .int .i64 N, .int .i64 D] 23) := (K0.out.below hb1 K0.out.lt).alloc _
  have J1 : Hid (Blk (w1.alloc (.cells #[.int .i64 a, .int .i64 b, .int .i64 c, .int .i64 f] 23)) w1.heap.size #[.int .i64 a, .int .i64 b, .int .i64 c, .int .i64 f] 23) := Blk.new _ _ _
  have B1 : Hid (Below w.heap.size w (w1.alloc (.cells #[.int .i64 a, .int .i64 b, .int .i64 c, .int .i64 f] 23))) := (B0.out.trans (hb1.mono B0.out.size)).alloc (B0.out.trans (hb1.mono B0.out.size)).size _
  clear hb1 K0 B0 HT
  go_wp2_with fail
  refine (paceBegun_any _).mono ?_
  rintro e w2 ⟨rfl, hb2⟩
  have K2 : Hid (Blk w2 w.heap.size #[.int .i64 W, .int .i64 M, .int .i64 N, .int .i64 D] 23) := K1.out.below hb2 K1.out.lt
  have J2 : Hid (Blk w2 w1.heap.size #[.int .i64 a, .int .i64 b, .int .i64 c, .int .i64 f] 23) := J1.out.below hb2 J1.out.lt
  have B2 : Hid (Below w.heap.size w w2) := B1.out.trans (hb2.mono B1.out.size)
  clear hb2 K1 J1 B1
  obtain ⟨j0, j1, j2, j3⟩ := J2.out.four
  obtain ⟨k0, k1, k2, k3⟩ := K2.out.four
  by_cases hE0 : E = 0
  case neg =>
    obtain ⟨rfl, rfl, rfl, rfl⟩ := HV.out.2 hE0
    have hq := fun W => eql_pace 0 0 0 0 0 0 0 0 W
    go_wp2
    go_ret
    exact ⟨rfl, B2.out⟩
  obtain ⟨rfl, e2, rfl, rfl⟩ := HV.out.1 hE0
  obtain ⟨h1, h2, _, _, h5⟩ := Pc.turnE_zero.1 (HE.out.symm.trans hE0)
  subst hE0
  have HR : Hid (Pc.right W M c f = true) := h1
  obtain ⟨p1, p2, p3, p4, p5, p6, p7, p8⟩ := Pc.right_iff.1 h1
  have hx : W ≤ a ∧ a ≤ 1000000 := by simpa [Pc.inB] using h2
  have hb0 : M ≤ b := by rw [e2]; exact Pc.med_ge (by omega) (by omega) hx.1
  have HR2 : Hid (Pc.right a b c f = true) := Pc.right_iff.2 ⟨by omega, by omega, by omega, by rw [e2]; exact h5, by omega, by omega, by omega, by omega⟩
  have HB : Hid (b = Pc.med W M c f a) := e2
  clear h1 h2 h5 e2 HV HE
  by_cases hy1 : y < a
  · have HN : Hid (Pc.medE a b c f y = 3) := by show _ = _; unfold Pc.medE; rw [if_neg (by simp [Pc.inB]; omega)]
    go_wp2_with fail
    refine (media_any _ _ _ _ _ _).mono ?_
    rintro e w3 ⟨rfl, hb3⟩
    have J3 := (J2.out.below hb3 J2.out.lt).four
    have B3 : Hid (Below w.heap.size w w3) := B2.out.trans (hb3.mono B2.out.size)
    obtain ⟨q0, q1, q2, q3⟩ := J3
    clear hb3 j0 j1 j2 j3 k0 k1 k2 k3 J2 K2 B2
    go_wp2_with fail
    refine (media_any _ _ _ _ _ _).mono ?_
    rintro e w4 ⟨rfl, hb4⟩
    have B4 : Hid (Below w.heap.size w w4) := B3.out.trans (hb4.mono B3.out.size)
    clear hb4 q0 q1 q2 q3 B3
    have hn := HN.out
    go_wp2
    go_ret
    exact ⟨rfl, B4.out⟩
  by_cases hy2 : 1000000 < y
  · have HN : Hid (Pc.medE a b c f y = 3) := by show _ = _; unfold Pc.medE; rw [if_neg (by simp [Pc.inB]; omega)]
    go_wp2_with fail
    refine (media_any _ _ _ _ _ _).mono ?_
    rintro e w3 ⟨rfl, hb3⟩
    have J3 := (J2.out.below hb3 J2.out.lt).four
    have B3 : Hid (Below w.heap.size w w3) := B2.out.trans (hb3.mono B2.out.size)
    obtain ⟨q0, q1, q2, q3⟩ := J3
    clear hb3 j0 j1 j2 j3 k0 k1 k2 k3 J2 K2 B2
    go_wp2_with fail
    refine (media_any _ _ _ _ _ _).mono ?_
    rintro e w4 ⟨rfl, hb4⟩
    have B4 : Hid (Below w.heap.size w w4) := B3.out.trans (hb4.mono B3.out.size)
    clear hb4 q0 q1 q2 q3 B3
    have hn := HN.out
    go_wp2
    go_ret
    exact ⟨rfl, B4.out⟩
  have i1 : Pc.inB y W 1000000 = true := by simp [Pc.inB]; omega
  have i2 : Pc.inB y a 1000000 = true := by simp [Pc.inB]; omega
  have HN1 : Hid (Pc.medE W M c f y = 0 ∧ Pc.medN W M c f y = Pc.med W M c f y) := ⟨by unfold Pc.medE; rw [HR.out, i1]; rfl, by unfold Pc.medN; rw [HR.out, i1]; rfl⟩
  have HN2 : Hid (Pc.medE a b c f y = 0 ∧ Pc.medN a b c f y = Pc.med a b c f y) := ⟨by unfold Pc.medE; rw [HR2.out, i2]; rfl, by unfold Pc.medN; rw [HR2.out, i2]; rfl⟩
  have HQ : Hid (Pc.med a b c f y ≤ Pc.med W M c f y ∧ Pc.med W M c f y ≤ Pc.med a b c f y + 1) := by show _ ∧ _; rw [HB.out]; exact Pc.turns (by omega)
  have HL : Hid (b ≤ Pc.med a b c f y ∧ Pc.med a b c f y ≤ 101000000) := ⟨Pc.med_ge (by omega) (by omega) (by omega), Pc.med_le HR2.out (by omega) (by omega)⟩
  clear i1 i2
  go_wp2_with fail
  refine (media_any _ _ _ _ _ _).mono ?_
  rintro e w3 ⟨rfl, hb3⟩
  have J3 := (J2.out.below hb3 J2.out.lt).four
  have B3 : Hid (Below w.heap.size w w3) := B2.out.trans (hb3.mono B2.out.size)
  obtain ⟨q0, q1, q2, q3⟩ := J3
  clear hb3 j0 j1 j2 j3 k0 k1 k2 k3 J2 K2 B2
  go_wp2_with fail
  refine (media_any _ _ _ _ _ _).mono ?_
  rintro e w4 ⟨rfl, hb4⟩
  have B4 : Hid (Below w.heap.size w w4) := B3.out.trans (hb4.mono B3.out.size)
  clear hb4 q0 q1 q2 q3 B3
  obtain ⟨n1, n2⟩ := HN1.out
  obtain ⟨n3, n4⟩ := HN2.out
  obtain ⟨u1, u2⟩ := HQ.out
  obtain ⟨u3, u4⟩ := HL.out
  rw [n1, n2, n3, n4]
  generalize Pc.med W M c f y = A at *
  generalize Pc.med a b c f y = C at *
  clear n1 n2 n3 n4 HN1 HN2 HQ HL HB HR HR2
  go_wp2
  go_ret
  exact ⟨rfl, B4.out⟩

end Go.Proofs.Ytfihnceeonffoae
