/-
  Contracts: the document's answer for Unwrap; 'intsAre' where the two lists are the same.
-/
import Derived.Test.YtaabikjdockclaaCountRef
import Derived.Deep.QuietTactic
import Derived.BigQuiet
namespace Go.Proofs.Ytaabikjdockclaa
open Go.RowKit

theorem Cn.raw_other (last seq : Int) (h1 : 0 ≤ seq) (h2 : seq ≤ 65535) :
    (last - last % 65536 + seq < last - 32767 → Cn.raw last seq = last - last % 65536 + seq + 65536) ∧
    (¬ last - last % 65536 + seq < last - 32767 → last + 32768 < last - last % 65536 + seq → Cn.raw last seq = last - last % 65536 + seq - 65536) ∧
    (¬ last - last % 65536 + seq < last - 32767 → ¬ last + 32768 < last - last % 65536 + seq → Cn.raw last seq = last - last % 65536 + seq) := by
  unfold Cn.raw; refine ⟨?_, ?_, ?_⟩ <;> (split <;> omega)

set_option maxHeartbeats 1000000 in
theorem unwrapOf_any (last seq : Int) (w : World) :
    Calls Try.prog 20 #[.int .i64 last, .int .i64 seq] w fun e w' => e = .returned (.tuple #[.int .i64 (Cn.uwN last seq), .int .i64 (Cn.uwE last seq)]) ∧ w = w' := by
  cases hb : Cn.isNB last
  · have hno : Cn.okB last seq = false := by simp [Cn.okB, hb]
    obtain ⟨hE, hN⟩ := Cn.uw_no hno
    rw [hE, hN]
    clear hE hN hno
    go_enter Try.func20, Try.ntmps20
    go_wp2_with (first
      | (go_at_call 19; refine (refIsN_any _ _).mono ?_; rintro e w' ⟨rfl, rfl⟩)
      | (go_at_call 29; refine (between_any _ _ _ _).mono ?_; rintro e w' ⟨rfl, rfl⟩))
    go_ret2
    exact ⟨rfl, rfl⟩
  · cases hs : Cn.betB seq 0 65535
    · have hno : Cn.okB last seq = false := by
        simp only [Cn.betB, Bool.and_eq_false_iff] at hs
        rcases hs with hs | hs <;> simp [Cn.okB, hs]
      obtain ⟨hE, hN⟩ := Cn.uw_no hno
      rw [hE, hN]
      clear hE hN hno
      go_enter Try.func20, Try.ntmps20
      go_wp2_with (first
        | (go_at_call 19; refine (refIsN_any _ _).mono ?_; rintro e w' ⟨rfl, rfl⟩)
        | (go_at_call 29; refine (between_any _ _ _ _).mono ?_; rintro e w' ⟨rfl, rfl⟩))
      go_ret2
      exact ⟨rfl, rfl⟩
    · obtain ⟨hr1, hr2⟩ := Cn.isNB_iff.1 hb
      have hsb : 0 ≤ seq ∧ seq ≤ 65535 := by simpa [Cn.betB] using hs
      obtain ⟨hs1, hs2⟩ := hsb
      obtain ⟨ho1, ho2, ho3⟩ := Cn.raw_other last seq hs1 hs2
      have key : ∀ x, Cn.raw last seq = x → (Cn.isNB x = true → Cn.uwE last seq = 0 ∧ Cn.uwN last seq = x) ∧ (Cn.isNB x = false → Cn.uwE last seq = 3 ∧ Cn.uwN last seq = 0) := by
        intro x hx
        refine ⟨fun h => ?_, fun h => ?_⟩
        · have := Cn.uw_ok (last := last) (seq := seq) (by simp [Cn.okB, hb, hs1, hs2, hx, h])
          rw [hx] at this; exact this
        · exact Cn.uw_no (last := last) (seq := seq) (by simp [Cn.okB, hx, h])
      have fin : ∀ x, x = last - last % 65536 + seq → (x < last - 32767 → Cn.raw last seq = x + 65536) ∧ (¬ x < last - 32767 → last + 32768 < x → Cn.raw last seq = x - 65536) ∧ (¬ x < last - 32767 → ¬ last + 32768 < x → Cn.raw last seq = x) := by
        intro x hx; subst hx; exact ⟨ho1, ho2, ho3⟩
      by_cases hc1 : last - last % 65536 + seq < last - 32767
      · have hk := key _ (ho1 hc1)
        clear ho1 ho2 ho3 fin key
        cases hb2 : Cn.isNB (last - last % 65536 + seq + 65536)
        · obtain ⟨hE, hN⟩ := hk.2 hb2
          rw [hE, hN]
          clear hE hN hk
          go_enter Try.func20, Try.ntmps20
          go_wp2_with (first
            | (go_at_call 19; refine (refIsN_any _ _).mono ?_; rintro e w' ⟨rfl, rfl⟩)
            | (go_at_call 29; refine (between_any _ _ _ _).mono ?_; rintro e w' ⟨rfl, rfl⟩))
          go_ret2
          exact ⟨rfl, rfl⟩
        · obtain ⟨hE, hN⟩ := hk.1 hb2
          rw [hE, hN]
          clear hE hN hk
          go_enter Try.func20, Try.ntmps20
          go_wp2_with (first
            | (go_at_call 19; refine (refIsN_any _ _).mono ?_; rintro e w' ⟨rfl, rfl⟩)
            | (go_at_call 29; refine (between_any _ _ _ _).mono ?_; rintro e w' ⟨rfl, rfl⟩))
          go_ret2
          exact ⟨rfl, rfl⟩
      · by_cases hc2 : last + 32768 < last - last % 65536 + seq
        · have hk := key _ (ho2 hc1 hc2)
          clear ho1 ho2 ho3 fin key
          cases hb2 : Cn.isNB (last - last % 65536 + seq - 65536)
          · obtain ⟨hE, hN⟩ := hk.2 hb2
            rw [hE, hN]
            clear hE hN hk
            go_enter Try.func20, Try.ntmps20
            go_wp2_with (first
              | (go_at_call 19; refine (refIsN_any _ _).mono ?_; rintro e w' ⟨rfl, rfl⟩)
              | (go_at_call 29; refine (between_any _ _ _ _).mono ?_; rintro e w' ⟨rfl, rfl⟩))
            go_ret2
            exact ⟨rfl, rfl⟩
          · obtain ⟨hE, hN⟩ := hk.1 hb2
            rw [hE, hN]
            clear hE hN hk
            go_enter Try.func20, Try.ntmps20
            go_wp2_with (first
              | (go_at_call 19; refine (refIsN_any _ _).mono ?_; rintro e w' ⟨rfl, rfl⟩)
              | (go_at_call 29; refine (between_any _ _ _ _).mono ?_; rintro e w' ⟨rfl, rfl⟩))
            go_ret2
            exact ⟨rfl, rfl⟩
        · have hk := key _ (ho3 hc1 hc2)
          clear ho1 ho2 ho3 fin key
          cases hb2 : Cn.isNB (last - last % 65536 + seq)
          · obtain ⟨hE, hN⟩ := hk.2 hb2
            rw [hE, hN]
            clear hE hN hk
            go_enter Try.func20, Try.ntmps20
            go_wp2_with (first
              | (go_at_call 19; refine (refIsN_any _ _).mono ?_; rintro e w' ⟨rfl, rfl⟩)
              | (go_at_call 29; refine (between_any _ _ _ _).mono ?_; rintro e w' ⟨rfl, rfl⟩))
            go_ret2
            exact ⟨rfl, rfl⟩
          · obtain ⟨hE, hN⟩ := hk.1 hb2
            rw [hE, hN]
            clear hE hN hk
            go_enter Try.func20, Try.ntmps20
            go_wp2_with (first
              | (go_at_call 19; refine (refIsN_any _ _).mono ?_; rintro e w' ⟨rfl, rfl⟩)
              | (go_at_call 29; refine (between_any _ _ _ _).mono ?_; rintro e w' ⟨rfl, rfl⟩))
            go_ret2
            exact ⟨rfl, rfl⟩

end Go.Proofs.Ytaabikjdockclaa
