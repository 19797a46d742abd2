/-
  Contract: switchbacklaw.bufferIs, where it answers true.
-/
import Derived.Test.YtanefofheeecdabRefPut2
import Derived.Test.YtanefofheeecdabBufBegun
namespace Go.Proofs.Ytanefofheeecdab
open Go.RowKit

theorem Below.on {a b c : World} (h : Below a.heap.size a b) (k : Below b.heap.size b c) : Below a.heap.size a c := h.trans (k.mono h.size)

set_option maxHeartbeats 1000000 in
theorem bufferIs_true (n1 n2 e : Int) (u1 lv u2 ov : Value) (l1 l2 m1 m2 : List Sk) (w : World) (hu1 : Sls w u1 l1) (hl : Sls w lv l2) (hu2 : Sls w u2 m1) (ho : Sls w ov m2) (hl1 : l1.length ≤ 1000) (hl2 : l2.length ≤ 1000)
    (h : e = 0 ∧ n1 = n2 ∧ l1 = m1 ∧ l2 = m2 ∨ ¬ e = 0 ∧ n1 = 0 ∧ l1 = [] ∧ l2 = []) :
    Calls Try.prog 21 #[.agg #[.int .i64 n1, u1], lv, .int .i64 e, .int .i64 e, .agg #[.int .i64 n2, u2], ov] w fun r w' => r = .returned (.bool true) ∧ Below w.heap.size w w' := by
  obtain ⟨a1, c1, e1⟩ := hu1.len
  obtain ⟨a2, c2, e2⟩ := hl.len
  obtain ⟨a3, c3, e3⟩ := hu2.len
  obtain ⟨a4, c4, e4⟩ := ho.len
  rcases h with ⟨rfl, rfl, rfl, rfl⟩ | ⟨h0, rfl, rfl, rfl⟩
  · have HB : Hid (∀ w' : World, Below w.heap.size w w' → Calls Try.prog 22 #[.agg #[.int .i64 n1, u1], .agg #[.int .i64 n1, u2]] w' fun r w'' => r = .returned (.bool true) ∧ Below w'.heap.size w' w'') := fun w' hb => by
      have := sameBuffer_any n1 n1 u1 u2 l1 l1 w' (hu1.below hb) (hu2.below hb) (by omega)
      rw [(sameB_iff l1 l1).2 rfl] at this
      simpa using this
    have HS : Hid (∀ w' : World, Below w.heap.size w w' → Calls Try.prog 23 #[lv, ov] w' fun r w'' => r = .returned (.bool true) ∧ Below w'.heap.size w' w'') := fun w' hb => by
      have := sameSlots_any lv ov l2 l2 w' (hl.below hb) (ho.below hb) (by omega)
      rw [(sameB_iff l2 l2).2 rfl] at this
      exact this
    obtain ⟨k1, hk1⟩ : ∃ n, n = l1.length := ⟨_, rfl⟩
    obtain ⟨k2, hk2⟩ : ∃ n, n = l2.length := ⟨_, rfl⟩
    rw [← hk1] at e1 e3
    rw [← hk2] at e2 e4
    clear hu1 hl hu2 ho hl1 hl2 hk1 hk2
    subst e1 e2 e3 e4
    go_enter Try.func21, Try.ntmps21
    go_wp2_with fail
    refine (HB.out _ (by go_grown)).mono ?_
    rintro e w1 ⟨rfl, hb1⟩
    have B1 : Hid (Below w.heap.size w w1) := (((Below.refl _ w).alloc (Nat.le_refl _) _).alloc (by simp) _).trans (hb1.mono (by simp; omega))
    clear hb1
    go_wp2_with fail
    refine (HS.out _ B1.out).mono ?_
    rintro e w2 ⟨rfl, hb2⟩
    have B2 : Hid (Below w.heap.size w w2) := B1.out.trans (hb2.mono B1.out.size)
    clear hb2
    go_wp2
    go_ret
    exact ⟨rfl, B2.out⟩
  · have HB : Hid (∀ w' : World, Below w.heap.size w w' → Calls Try.prog 22 #[.agg #[.int .i64 0, u1], .agg #[.int .i64 0, .slice none 0 0]] w' fun r w'' => r = .returned (.bool true) ∧ Below w'.heap.size w' w'') := fun w' hb => by
      have := sameBuffer_any 0 0 u1 (.slice none 0 0) [] [] w' (hu1.below hb) (Sls.nil _) (by simp)
      exact this
    have HS : Hid (∀ w' : World, Below w.heap.size w w' → Calls Try.prog 23 #[lv, .slice none 0 0] w' fun r w'' => r = .returned (.bool true) ∧ Below w'.heap.size w' w'') := fun w' hb => by
      have := sameSlots_any lv (.slice none 0 0) [] [] w' (hl.below hb) (Sls.nil _) (by simp)
      exact this
    obtain ⟨k3, hk3⟩ : ∃ n, n = m1.length := ⟨_, rfl⟩
    obtain ⟨k4, hk4⟩ : ∃ n, n = m2.length := ⟨_, rfl⟩
    rw [← hk3] at e3
    rw [← hk4] at e4
    clear hu1 hl hu2 ho hl1 hl2 hk3 hk4
    simp only [List.length_nil] at e1 e2
    subst e1 e2 e3 e4
    go_enter Try.func21, Try.ntmps21
    go_wp2_with fail
    refine (HB.out _ (by go_grown)).mono ?_
    rintro e w1 ⟨rfl, hb1⟩
    have B1 : Hid (Below w.heap.size w w1) := (show Below w.heap.size w _ by go_grown).trans (hb1.mono (by simp; omega))
    clear hb1
    go_wp2_with fail
    refine (HS.out _ B1.out).mono ?_
    rintro e w2 ⟨rfl, hb2⟩
    have B2 : Hid (Below w.heap.size w w2) := B1.out.trans (hb2.mono B1.out.size)
    clear hb2
    go_wp2
    go_ret
    exact ⟨rfl, B2.out⟩

end Go.Proofs.Ytanefofheeecdab
