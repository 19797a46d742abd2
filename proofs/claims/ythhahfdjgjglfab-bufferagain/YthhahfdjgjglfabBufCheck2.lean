/-
  Contract: buffer.Check, whole.
-/
import Derived.Test.YthhahfdjgjglfabBufCheck
import Derived.Test.YthhahfdjgjglfabKeeper4
namespace Go.Proofs.Ythhahfdjgjglfab
open Go.RowKit

set_option maxHeartbeats 2000000 in
theorem bufCheck_any (next : Int) (v : Value) (l : List Sk) (w : World) (hv : Sls w v l) (hlen : l.length ≤ 9223372036854775807) :
    Calls Try.prog 20 #[.agg #[.int .i64 next, v]] w fun e w' => e = .returned (.int .i64 (pchk next l)) ∧ Below w.heap.size w w' := by
  obtain ⟨a, c, hva⟩ := hv.len
  obtain ⟨n, hn⟩ : ∃ n, n = l.length := ⟨_, rfl⟩
  obtain ⟨r, hr⟩ : ∃ r, r = pchk next l := ⟨_, rfl⟩
  rw [← hn] at hva
  rw [← hr]
  have HR : Hid (r = pchk next l) := hr
  have HN : Hid (n = l.length) := hn
  have HV : Hid (Sls w v l) := hv
  have hln : n ≤ 9223372036854775807 := by omega
  clear hr hv hn hlen
  subst hva
  cases hb : nextBad next
  · have hnx := nextBad_false.1 hb
    have h0 : next = 0 ∨ ¬ next = 0 ∧ 65536 ≤ next ∧ next ≤ 1000000001 := by omega
    by_cases h4 : 4 < n
    · have hr : r = 2 := by rw [HR.out]; unfold pchk; rw [hb, if_neg (by simp), if_pos (by rw [← HN.out]; exact h4)]
      rw [hr]
      clear hnx hb hr
      rcases h0 with rfl | ⟨h1, h2, h3⟩
      all_goals
        go_enter Try.func20, Try.ntmps20
        go_wp2
        go_ret
        exact ⟨rfl, by go_grown⟩
    · have hcA := fun w' (hs : Sls w' (.slice a n c) l) => checkAll_any (.slice a n c) l w' hs (by rw [← HN.out]; exact hln)
      obtain ⟨ca, hca⟩ : ∃ ca, ca = chkAll l := ⟨_, rfl⟩
      rw [← hca] at hcA
      have HCA : Hid (ca = chkAll l) := hca
      have HA : Hid _ := hcA
      clear hca hcA
      by_cases hc0 : ca = 0
      · subst hc0
        have hrF := fun w' (hs : Sls w' (.slice a n c) l) => risesFrom_any next (.slice a n c) l w' hs (by rw [← HN.out]; exact hln)
        obtain ⟨ub, hub⟩ : ∃ ub, ub = upB next l := ⟨_, rfl⟩
        rw [← hub] at hrF
        have HUB : Hid (ub = upB next l) := hub
        have HF : Hid _ := hrF
        clear hub hrF
        have hr : r = if ub then (if next = 0 ∧ 0 < n then 4 else 0) else 4 := by rw [HR.out]; unfold pchk; rw [hb, if_neg (by simp), if_neg (by rw [← HN.out]; exact h4), if_pos HCA.out.symm, HUB.out, HN.out]
        have HRR : Hid (r = if ub then (if next = 0 ∧ 0 < n then 4 else 0) else 4) := hr
        clear hr hnx hb HR
        rcases h0 with rfl | ⟨h1, h2, h3⟩
        all_goals
          go_enter Try.func20, Try.ntmps20
          go_wp2_with fail
          refine (HA.out _ (HV.out.alloc _)).mono ?_
          rintro e w1 ⟨rfl, hb1⟩
          have k1 := (Blk.new w #[.int .i64 _, .slice a n c] 31).below hb1 (by simp)
          have v1 := (HV.out.alloc _).below hb1
          have B1 : Hid _ := hb1
          have K1 : Hid _ := k1
          obtain ⟨c0, c1⟩ := k1.two
          clear hb1 k1
          go_wp2_with fail
          refine (HF.out _ v1).mono ?_
          rintro e w2 ⟨rfl, hb2⟩
          have k2 := Blk.below K1.out hb2 (Blk.lt K1.out)
          obtain ⟨d0, d1⟩ := k2.two
          have B2 : Hid (Below w.heap.size w w2) := (((Below.refl _ w).alloc (Nat.le_refl _) _).trans (B1.out.mono (by simp))).trans (hb2.mono (by have := B1.out.size; simp at this; omega))
          clear hb2 k2 K1 v1 B1 c0 c1 HF HA
          cases ub
          · go_wp2
            go_ret
            exact ⟨by rw [HRR.out]; rfl, B2.out⟩
          · by_cases hn0 : n = 0
            · subst hn0
              go_wp2
              go_ret
              exact ⟨by rw [HRR.out]; simp [Array.getD], B2.out⟩
            · have hn1 : (0 : Int) < (n : Int) := by omega
              go_wp2
              go_ret
              refine ⟨?_, B2.out⟩
              rw [HRR.out]
              first
                | (rw [if_pos trivial, if_pos ⟨trivial, by omega⟩]; rfl)
                | (rw [if_pos trivial, if_neg (fun h => h1 h.1)]; rfl)
                | (rw [if_pos rfl, if_pos ⟨rfl, by omega⟩]; rfl)
                | (rw [if_pos rfl, if_neg (fun h => h1 h.1)]; rfl)
      · have hr : r = ca := by rw [HR.out]; unfold pchk; rw [hb, if_neg (by simp), if_neg (by rw [← HN.out]; exact h4), if_neg (by rw [← HCA.out]; exact hc0), HCA.out]
        rw [hr]
        clear hnx hb hr
        rcases h0 with rfl | ⟨h1, h2, h3⟩
        all_goals
          go_enter Try.func20, Try.ntmps20
          go_wp2_with (go_at_call 45; refine (HA.out _ (HV.out.alloc _)).mono ?_; rintro e w1 ⟨rfl, hb1⟩)
          go_ret
          exact ⟨rfl, ((Below.refl _ _).alloc (Nat.le_refl _) _).trans (hb1.mono (by simp))⟩
  · have hr : r = 3 := by rw [HR.out]; unfold pchk; rw [hb, if_pos rfl]
    rw [hr]
    have h0 : ¬ next = 0 := by rintro rfl; simp [nextBad] at hb
    have h1 : next < 65536 ∨ 65536 ≤ next ∧ 1000000001 < next := by simp [nextBad] at hb; omega
    clear hb hr
    rcases h1 with h1 | ⟨h1, h2⟩
    all_goals
      go_enter Try.func20, Try.ntmps20
      go_wp2
      go_ret
      exact ⟨rfl, by go_grown⟩

end Go.Proofs.Ythhahfdjgjglfab
