/-
  Contracts: the document's CheckFrame and SameFrame.
-/
import Derived.Test.YtnpaejknoipicadMaker2
namespace Go.Proofs.Ytnpaejknoipicad
open Go.RowKit

set_option maxHeartbeats 1600000 in
theorem refCheckFrame_any (time : Int) (key : Bool) (v : Value) (l : List ByteArray) (w : World) (hv : Strs w v l) (hlen : l.length ≤ 9223372036854775807) :
    Calls Try.prog 80 #[.agg #[.int .i64 time, .bool key, v]] w fun e w' => e = .returned (.int .i64 (chkF time l)) ∧ Below w.heap.size w w' := by
  obtain ⟨ao, c, hva, hc⟩ := hv.parts
  have HC : Hid (∀ k, k < l.length → ∃ b off, ao = some ⟨b, off, none⟩ ∧ b < w.heap.size ∧ w.cell? ⟨b, off + k, none⟩ = some (.string (l[k]?.getD ByteArray.empty))) := hc
  obtain ⟨n, hn⟩ : ∃ n, n = l.length := ⟨_, rfl⟩
  have HN : Hid (n = l.length) := hn
  rw [← hn] at hva hlen
  have hr : chkF time l = if time < 0 ∨ 1000000 < time then 3 else if n = 0 then 5 else if 4 < n then 2 else if l.any longB then 2 else 0 := by unfold chkF; rw [hn]
  rw [hr]
  clear hv hn hr hc
  subst hva
  cases hb : Cn.betB time 0 1000000
  · have h1 : time < 0 ∨ 1000000 < time := by
      simp only [Cn.betB, Bool.and_eq_false_iff, decide_eq_false_iff_not] at hb; omega
    rw [if_pos h1]
    go_enter Try.func80, Try.ntmps80
    go_wp2_with (go_at_call 52; refine (between_any _ _ _ _).mono ?_; rintro e w' ⟨rfl, rfl⟩)
    go_ret
    exact ⟨rfl, by go_grown⟩
  have h1 : ¬ (time < 0 ∨ 1000000 < time) := by simp [Cn.betB] at hb; omega
  rw [if_neg h1]
  clear h1
  by_cases h3 : n = 0
  · rw [if_pos h3]
    subst h3
    go_enter Try.func80, Try.ntmps80
    go_wp2_with (go_at_call 52; refine (between_any _ _ _ _).mono ?_; rintro e w' ⟨rfl, rfl⟩)
    go_ret
    exact ⟨rfl, by go_grown⟩
  rw [if_neg h3]
  have h3' : ((n : Int) == 0) = false := by simpa using h3
  by_cases h4 : 4 < n
  · rw [if_pos h4]
    go_enter Try.func80, Try.ntmps80
    go_wp2_with (go_at_call 52; refine (between_any _ _ _ _).mono ?_; rintro e w' ⟨rfl, rfl⟩)
    go_ret
    exact ⟨rfl, by go_grown⟩
  rw [if_neg h4]
  obtain ⟨R, hR⟩ : ∃ R : Int, R = if l.any longB then 2 else 0 := ⟨_, rfl⟩
  rw [← hR]
  have HR : Hid (R = if l.any longB then 2 else 0) := hR
  clear hR
  go_enter Try.func80, Try.ntmps80
  go_wp2_with (go_at_call 52; refine (between_any _ _ _ _).mono ?_; rintro e w' ⟨rfl, rfl⟩)
  go_loopw [3] (fun i wr => ∃ k : Nat, k ≤ n ∧ i = .int .i64 k ∧ Hid (∀ j, j < k → longB (l[j]?.getD ByteArray.empty) = false) ∧ wr = w.alloc (.cells #[.int .i64 time, .bool key, .slice ao n c] 36))
    (fun i _ => n - (intOf i).toNat)
  case atStart => exact ⟨0, Nat.zero_le _, rfl, (show ∀ j, j < 0 → _ from fun j hj => absurd hj (Nat.not_lt_zero _)), rfl⟩
  case round =>
    obtain ⟨k, hk, rfl, HK, rfl⟩ := hrel
    by_cases hlt : k < n
    · obtain ⟨b, off, rfl, hbb, hat⟩ := HC.out k (by rw [← HN.out]; exact hlt)
      obtain ⟨x, hx⟩ : ∃ x, x = l[k]?.getD ByteArray.empty := ⟨_, rfl⟩
      rw [← hx] at hat
      have HX : Hid (x = l[k]?.getD ByteArray.empty) := hx
      clear hx
      by_cases hl : 8 < (x.size : Int)
      · go_wp2
        go_ret
        refine ⟨?_, by go_grown⟩
        rw [HR.out, if_pos (any_hit (k := k) (by rw [← HN.out]; exact hlt) (by rw [← HX.out]; unfold longB; simp; omega))]
        rfl
      · go_wp2
        go_roundw
        case rel =>
          refine ⟨k + 1, by omega, by go_num, (show ∀ j, j < k + 1 → _ from fun j hj => ?_), by first | rfl | trivial⟩
          by_cases e : j = k
          · subst e
            rw [← HX.out]; unfold longB; simp; omega
          · exact HK.out j (by omega)
        case measure => simp [intOf]; omega
    · have hkl : k = n := by omega
      subst hkl
      go_wp2
      go_ret
      refine ⟨?_, by go_grown⟩
      rw [HR.out, any_miss (fun j hj => HK.out j (by rw [HN.out]; exact hj))]
      rfl

end Go.Proofs.Ytnpaejknoipicad
