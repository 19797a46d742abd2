/-
  Contracts of package count's calls.
-/
import Derived.Test.YtnpaejknoipicafGreatRows
import Derived.WalkKit
import Derived.WalkSpells
import Derived.WalkLawsBesides
import Derived.Test.YtnpaejknoipicafGreatCountPlain
namespace Go.Proofs.YtnpaejknoipicafGreat
open Go.RowKit

theorem ret2_int {k l : IntKind} {a b c d : Int} (h : a = b) (g : c = d) : Ending.returned (.tuple #[.int k a, .int l c]) = .returned (.tuple #[.int k b, .int l d]) := by rw [h, g]

set_option maxHeartbeats 400000 in
theorem isNumber_any (n : Int) (w : World) :
    Calls Tryz.prog 122 #[.int .i64 n] w fun e w' => e = .returned (.bool (Cn.isNB n)) ∧ w = w' := by
  by_cases h1 : 65536 ≤ n
  · by_cases h2 : n ≤ 1000000000
    · rw [Cn.isNB_true h1 h2]
      go_enter Tryz.func122, Tryz.ntmps122
      go_wp2
      go_ret
      exact ⟨rfl, rfl⟩
    · rw [Cn.isNB_false (.inr (by omega))]
      go_enter Tryz.func122, Tryz.ntmps122
      go_wp2
      go_ret
      exact ⟨rfl, rfl⟩
  · rw [Cn.isNB_false (.inl (by omega))]
    go_enter Tryz.func122, Tryz.ntmps122
    go_wp2
    go_ret
    exact ⟨rfl, rfl⟩

set_option maxHeartbeats 400000 in
theorem wrap_any (n : Int) (w : World) :
    Calls Tryz.prog 80 #[.int .i64 n] w fun e w' => e = .returned (.tuple #[.int .i64 (Cn.wrN n), .int .i64 (Cn.wrE n)]) ∧ w = w' := by
  cases hb : Cn.isNB n
  · have hE : Cn.wrE n = 3 := by simp [Cn.wrE, hb]
    have hN : Cn.wrN n = 0 := by simp [Cn.wrN, hb]
    rw [hE, hN]
    clear hE hN
    go_enter Tryz.func80, Tryz.ntmps80
    go_wp2_with (go_at_call 122; refine (isNumber_any _ _).mono ?_; rintro e w' ⟨rfl, rfl⟩)
    go_ret2
    exact ⟨rfl, rfl⟩
  · have hE : Cn.wrE n = 0 := by simp [Cn.wrE, hb]
    have hN : Cn.wrN n = n % 65536 := by simp [Cn.wrN, hb]
    have hr := Cn.isNB_iff.1 hb
    obtain ⟨hr1, hr2⟩ := hr
    rw [hE, hN]
    clear hE hN
    go_enter Tryz.func80, Tryz.ntmps80
    go_wp2_with (go_at_call 122; refine (isNumber_any _ _).mono ?_; rintro e w' ⟨rfl, rfl⟩)
    go_ret2
    exact ⟨rfl, rfl⟩

set_option maxHeartbeats 1000000 in
theorem unwrap_any (last seq : Int) (w : World) :
    Calls Tryz.prog 157 #[.int .i64 last, .int .i64 seq] w fun e w' => e = .returned (.tuple #[.int .i64 (Cn.uwN last seq), .int .i64 (Cn.uwE last seq)]) ∧ w = w' := by
  cases hb : Cn.isNB last
  · have hno : Cn.okB last seq = false := by simp [Cn.okB, hb]
    obtain ⟨hE, hN⟩ := Cn.uw_no hno
    rw [hE, hN]
    clear hE hN hno
    go_enter Tryz.func157, Tryz.ntmps157
    go_wp2_with (go_at_call 122; refine (isNumber_any _ _).mono ?_; rintro e w' ⟨rfl, rfl⟩)
    go_ret2
    exact ⟨rfl, rfl⟩
  · obtain ⟨hr1, hr2⟩ := Cn.isNB_iff.1 hb
    by_cases hs : 0 ≤ seq
    · by_cases hs2 : seq ≤ 65535
      · have hnear := Cn.raw_near last seq hs hs2
        cases hb2 : Cn.isNB (Cn.raw last seq)
        · have hno : Cn.okB last seq = false := by simp [Cn.okB, hb2]
          obtain ⟨hE, hN⟩ := Cn.uw_no hno
          rw [hE, hN]
          clear hE hN hno hnear
          unfold Cn.raw at hb2
          by_cases hf : 32768 < (seq - last) % 65536
          · rw [if_pos hf] at hb2
            go_enter Tryz.func157, Tryz.ntmps157
            go_wp2_with (go_at_call 122; refine (isNumber_any _ _).mono ?_; rintro e w' ⟨rfl, rfl⟩)
            go_ret2
            exact ⟨rfl, rfl⟩
          · rw [if_neg hf] at hb2
            go_enter Tryz.func157, Tryz.ntmps157
            go_wp2_with (go_at_call 122; refine (isNumber_any _ _).mono ?_; rintro e w' ⟨rfl, rfl⟩)
            go_ret2
            exact ⟨rfl, rfl⟩
        · have hno : Cn.okB last seq = true := by simp [Cn.okB, hb, hb2, hs, hs2]
          obtain ⟨hE, hN⟩ := Cn.uw_ok hno
          rw [hE, hN]
          clear hE hN hno hnear
          unfold Cn.raw at hb2 ⊢
          by_cases hf : 32768 < (seq - last) % 65536
          · rw [if_pos hf] at hb2 ⊢
            go_enter Tryz.func157, Tryz.ntmps157
            go_wp2_with (go_at_call 122; refine (isNumber_any _ _).mono ?_; rintro e w' ⟨rfl, rfl⟩)
            go_ret2
            exact ⟨rfl, rfl⟩
          · rw [if_neg hf] at hb2 ⊢
            go_enter Tryz.func157, Tryz.ntmps157
            go_wp2_with (go_at_call 122; refine (isNumber_any _ _).mono ?_; rintro e w' ⟨rfl, rfl⟩)
            go_ret2
            exact ⟨rfl, rfl⟩
      · have hno : Cn.okB last seq = false := by simp [Cn.okB, hs2]
        obtain ⟨hE, hN⟩ := Cn.uw_no hno
        rw [hE, hN]
        clear hE hN hno
        go_enter Tryz.func157, Tryz.ntmps157
        go_wp2_with (go_at_call 122; refine (isNumber_any _ _).mono ?_; rintro e w' ⟨rfl, rfl⟩)
        go_ret2
        exact ⟨rfl, rfl⟩
    · have hno : Cn.okB last seq = false := by simp [Cn.okB, hs]
      obtain ⟨hE, hN⟩ := Cn.uw_no hno
      rw [hE, hN]
      clear hE hN hno
      go_enter Tryz.func157, Tryz.ntmps157
      go_wp2_with (go_at_call 122; refine (isNumber_any _ _).mono ?_; rintro e w' ⟨rfl, rfl⟩)
      go_ret2
      exact ⟨rfl, rfl⟩

end Go.Proofs.YtnpaejknoipicafGreat
