/-
  Contract: what must be in any case, of paces.
-/
import Derived.Test.YtfihnceeonffoadPaceTurn
import Derived.Test.YtfihnceeonffoadBlocks
namespace Go.Proofs.Ytfihnceeonffoad
open Go.RowKit

theorem eql_pace (a b c d a' b' c' d' : Int) (w : World) : (binOp .eql 64 (.agg #[.int .i64 a, .int .i64 b, .int .i64 c, .int .i64 d]) (.agg #[.int .i64 a', .int .i64 b', .int .i64 c', .int .i64 d'])).run Try.prog w = .ok (.bool ((a == a') && ((b == b') && ((c == c') && (d == d'))))) w := by
  rw [run_eql_struct, run_equalIn_agg w 9999 64 _ _ (by kernel_rfl) (by kernel_rfl)]
  rw [show (Try.prog.fieldsOf 64) = _ by unfold Program.fieldsOf; rw [Try.underlying64]]
  cases h0 : (a == a')
  · simp [go_sem, h0]
  cases h1 : (b == b')
  · simp [go_sem, h0, h1]
  cases h2 : (c == c')
  · simp [go_sem, h0, h1, h2]
  cases h3 : (d == d')
  · simp [go_sem, h0, h1, h2, h3]
  · simp [go_sem, h0, h1, h2, h3]

theorem Blk.four {w : World} {b : Nat} {t : TypeId} {x0 x1 x2 x3 : Value} (h : Blk w b #[x0, x1, x2, x3] t) :
    w.cell? ⟨b, 0, none⟩ = some x0 ∧ w.cell? ⟨b, 1, none⟩ = some x1 ∧ w.cell? ⟨b, 2, none⟩ = some x2 ∧ w.cell? ⟨b, 3, none⟩ = some x3 := ⟨h.cell rfl, h.cell rfl, h.cell rfl, h.cell rfl⟩

set_option maxHeartbeats 4000000 in
theorem paceBegun_any (w : World) :
    Calls Try.prog 36 #[] w fun e w' => e = .returned (.bool true) ∧ Below w.heap.size w w' := by
  have HA : Hid (∀ w' : World, Calls Try.prog 30 #[.agg #[.int .i64 10, .int .i64 100, .int .i64 3, .int .i64 2], .int .i64 15] w' fun e w'' => e = .returned (.tuple #[.int .i64 107, .int .i64 0]) ∧ Below w'.heap.size w' w'') := fun w' => by
    have h := media_any 10 100 3 2 15 w'
    rw [show Pc.medN 10 100 3 2 15 = 107 by decide, show Pc.medE 10 100 3 2 15 = 0 by decide] at h
    exact h
  have HB : Hid (∀ w' : World, Calls Try.prog 31 #[.agg #[.int .i64 10, .int .i64 100, .int .i64 3, .int .i64 2], .int .i64 107] w' fun e w'' => e = .returned (.tuple #[.int .i64 15, .int .i64 0]) ∧ Below w'.heap.size w' w'') := fun w' => by
    have h := wall_any 10 100 3 2 107 w'
    rw [show Pc.walN 10 100 3 2 107 = 15 by decide, show Pc.walE 10 100 3 2 107 = 0 by decide] at h
    exact h
  have HC : Hid (∀ w' : World, Calls Try.prog 32 #[.agg #[.int .i64 10, .int .i64 100, .int .i64 3, .int .i64 2], .int .i64 15, .int .i64 1, .int .i64 1] w' fun e w'' => e = .returned (.tuple #[.agg #[.int .i64 15, .int .i64 107, .int .i64 1, .int .i64 1], .int .i64 0]) ∧ Below w'.heap.size w' w'') := fun w' => by
    refine (turn_any 10 100 3 2 15 1 1 w').mono ?_
    rw [show Pc.turnE 10 100 3 2 15 1 1 = 0 by decide]
    rintro e w'' ⟨⟨a, b, c, f, rfl, h, _⟩, hb⟩
    obtain ⟨rfl, rfl, rfl, rfl⟩ := h rfl
    exact ⟨by rw [show Pc.med 10 100 3 2 15 = 107 by decide], hb⟩
  go_enter Try.func36, Try.ntmps36
  go_wp2_with fail
  have K0 : Hid (Blk (w.alloc (.cells #[.int .i64 10, .int .i64 100, .int .i64 3, .int .i64 2] 64)) w.heap.size #[.int .i64 10, .int .i64 100, .int .i64 3, .int .i64 2] 64) := Blk.new _ _ _
  have B0 : Hid (Below w.heap.size w (w.alloc (.cells #[.int .i64 10, .int .i64 100, .int .i64 3, .int .i64 2] 64))) := (Below.refl _ _).alloc (Nat.le_refl _) _
  refine (HA.out _).mono ?_
  rintro e w1 ⟨rfl, hb1⟩
  have K1 : Hid (Blk w1 w.heap.size #[.int .i64 10, .int .i64 100, .int .i64 3, .int .i64 2] 64) := K0.out.below hb1 K0.out.lt
  have B1 : Hid (Below w.heap.size w w1) := B0.out.trans (hb1.mono B0.out.size)
  obtain ⟨k0, k1, k2, k3⟩ := K1.out.four
  clear hb1 K0 B0
  go_wp2_with fail
  refine (HB.out _).mono ?_
  rintro e w2 ⟨rfl, hb2⟩
  have K2 : Hid (Blk w2 w.heap.size #[.int .i64 10, .int .i64 100, .int .i64 3, .int .i64 2] 64) := K1.out.below hb2 K1.out.lt
  have B2 : Hid (Below w.heap.size w w2) := B1.out.trans (hb2.mono B1.out.size)
  clear k0 k1 k2 k3
  obtain ⟨k0, k1, k2, k3⟩ := K2.out.four
  clear hb2 K1 B1
  go_wp2_with fail
  refine (HC.out _).mono ?_
  rintro e w3 ⟨rfl, hb3⟩
  have B3 : Hid (Below w.heap.size w w3) := B2.out.trans (hb3.mono B2.out.size)
  clear k0 k1 k2 k3 K2 hb3 B2 HA HB HC
  have hq := fun W => eql_pace 15 107 1 1 15 107 1 1 W
  go_wp2
  go_ret
  exact ⟨rfl, B3.out.alloc B3.out.size _⟩

end Go.Proofs.Ytfihnceeonffoad
