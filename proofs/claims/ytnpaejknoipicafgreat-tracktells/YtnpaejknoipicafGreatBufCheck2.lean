/-
  Contract: buffer.Check, whole.
-/
import Derived.Test.YtnpaejknoipicafGreatBufCheck
import Derived.Test.YtnpaejknoipicafGreatKeeper4
namespace Go.Proofs.YtnpaejknoipicafGreat
open Go.RowKit

set_option maxHeartbeats 400000 in
theorem risesLit_fits (next : Int) (v : Value) (l : List Sk) (B : Nat) (w : World) (hB : Blk w B #[.int .i64 next, v] 57) (hv : Sls w v l) (hlen : l.length ≤ 9223372036854775807) :
    Fits 124 #[.pointer (some ⟨B, 0, none⟩)] (qB next l) l.length w := fun W k hk hb => by
  have hBW := hB.below hb hB.lt
  obtain ⟨c0, c1⟩ := hBW.two
  have hcall := rises_any next v l k W (hv.below hb) hk hlen
  obtain ⟨q, hq⟩ : ∃ q, q = qB next l k := ⟨_, rfl⟩
  rw [← hq] at hcall ⊢
  obtain ⟨a, c, rfl⟩ := hv.len
  clear hq hBW hB hv
  show Calls Tryz.prog 124 #[.int .i64 k, .pointer (some ⟨B, 0, none⟩)] W _
  go_enter Tryz.func124, Tryz.ntmps124
  go_wp2_with (go_at_call 125; refine hcall.mono ?_; rintro e w1 ⟨rfl, hbw⟩)
  go_ret
  exact ⟨rfl, hbw⟩

set_option maxHeartbeats 2000000 in
theorem bufCheck_any (next : Int) (v : Value) (l : List Sk) (w : World) (hv : Sls w v l) (hlen : l.length ≤ 9223372036854775807) :
    Calls Tryz.prog 81 #[.agg #[.int .i64 next, v]] w fun e w' => e = .returned (.int .i64 (pchk next l)) ∧ Below w.heap.size w w' := by
  obtain ⟨a, c, hva⟩ := hv.len
  obtain ⟨n, hn⟩ : ∃ n, n = l.length := ⟨_, rfl⟩
  obtain ⟨r, hr⟩ : ∃ r, r = bchk next l := ⟨_, rfl⟩
  rw [← hn] at hva
  unfold pchk
  rw [← hr]
  have HR : Hid (r = bchk next l) := hr
  have HN : Hid (n = l.length) := hn
  have HV : Hid (Sls w v l) := hv
  have hln : n ≤ 9223372036854775807 := by omega
  clear hr hv hn hlen
  subst hva
  cases hb : nextBad next
  · have hnx := nextBad_false.1 hb
    have h0 : next = 0 ∨ ¬ next = 0 ∧ 65536 ≤ next ∧ next ≤ 1000000001 := by omega
    by_cases h4 : 4 < n
    · have hr : r = 2 := by rw [HR.out]; unfold bchk; rw [hb, if_neg (by simp), if_pos (by rw [← HN.out]; exact h4)]
      rw [hr]
      clear hnx hb hr
      rcases h0 with rfl | ⟨h1, h2, h3⟩
      all_goals
        go_enter Tryz.func81, Tryz.ntmps81
        go_wp2
        go_ret
        exact ⟨rfl, by go_grown⟩
    · obtain ⟨w0, hw0⟩ : ∃ w0 : World, w0 = w.alloc (.cells #[.int .i64 next, .slice a n c] 57) := ⟨_, rfl⟩
      have hcA : Calls Tryz.prog 123 #[.slice a n c, .func (.func 124) #[] #[.pointer (some ⟨w.heap.size, 0, none⟩)]] w0 fun e w' => e = .returned (.int .i64 (bgo next next l)) ∧ Below w0.heap.size w0 w' := by
        rw [← fit_all, hw0]
        exact checkAll_any 124 #[.pointer (some ⟨w.heap.size, 0, none⟩)] (qB next l) (enters_of Tryz.func124 (by kernel_rfl) rfl) (.slice a n c) l _ (HV.out.alloc _) (by rw [← HN.out]; exact hln) (risesLit_fits next (.slice a n c) l w.heap.size _ (Blk.new w _ _) (HV.out.alloc _) (by rw [← HN.out]; exact hln))
      have hK0 : Blk w0 w.heap.size #[.int .i64 next, .slice a n c] 57 := by rw [hw0]; exact Blk.new w _ _
      have hB0 : Below w.heap.size w w0 := by rw [hw0]; exact (Below.refl _ w).alloc (Nat.le_refl _) _
      have hs0 : w.heap.size ≤ w0.heap.size := hB0.size
      obtain ⟨ca, hca⟩ : ∃ ca, ca = bgo next next l := ⟨_, rfl⟩
      rw [← hca] at hcA
      have hr : Hid (r = if ca = 0 then (if next = 0 ∧ 0 < n then 4 else 0) else ca) := by
        show r = _
        rw [HR.out, hca]; unfold bchk; rw [hb, if_neg (by simp), if_neg (by rw [← HN.out]; exact h4), HN.out]
      have HA : Hid (Calls Tryz.prog 123 #[.slice a n c, .func (.func 124) #[] #[.pointer (some ⟨w.heap.size, 0, none⟩)]] w0 fun e w' => e = .returned (.int .i64 ca) ∧ Below w0.heap.size w0 w') := hcA
      have HW0 : Hid (w0 = w.alloc (.cells #[.int .i64 next, .slice a n c] 57)) := hw0
      have K0 : Hid (Blk w0 w.heap.size #[.int .i64 next, .slice a n c] 57) := hK0
      have B0 : Hid (Below w.heap.size w w0) := hB0
      clear hca hcA hw0 hK0 hB0 hnx hb HR
      by_cases hc0 : ca = 0
      · subst hc0
        rcases h0 with rfl | ⟨h1, h2, h3⟩
        all_goals
          go_enter Tryz.func81, Tryz.ntmps81
          go_wp2_with fail
          rw [← HW0.out]
          refine HA.out.mono ?_
          rintro e w1 ⟨rfl, hb1⟩
          have k1 := Blk.below K0.out hb1 (Blk.lt K0.out)
          obtain ⟨d0, d1⟩ := k1.two
          have B1 : Hid (Below w.heap.size w w1) := B0.out.trans (hb1.mono hs0)
          clear hb1 k1 HA
          by_cases hn0 : n = 0
          · subst hn0
            go_wp2
            go_ret
            exact ⟨by rw [hr.out]; simp [Array.getD], B1.out⟩
          · have hn1 : (0 : Int) < (n : Int) := by omega
            go_wp2
            go_ret
            refine ⟨?_, B1.out⟩
            rw [hr.out]
            first
              | (rw [if_pos trivial, if_pos ⟨trivial, by omega⟩]; rfl)
              | (rw [if_pos trivial, if_neg (fun h => h1 h.1)]; rfl)
              | (rw [if_pos rfl, if_pos ⟨rfl, by omega⟩]; rfl)
              | (rw [if_pos rfl, if_neg (fun h => h1 h.1)]; rfl)
      · have hr' : r = ca := by rw [hr.out, if_neg hc0]
        rw [hr']
        clear hr hr'
        rcases h0 with rfl | ⟨h1, h2, h3⟩
        all_goals
          go_enter Tryz.func81, Tryz.ntmps81
          go_wp2_with fail
          rw [← HW0.out]
          refine HA.out.mono ?_
          rintro e w1 ⟨rfl, hb1⟩
          have B1 : Hid (Below w.heap.size w w1) := B0.out.trans (hb1.mono hs0)
          clear hb1 HA
          go_wp2
          go_ret
          exact ⟨rfl, B1.out⟩
  · have hr : r = 3 := by rw [HR.out]; unfold bchk; rw [hb, if_pos rfl]
    rw [hr]
    have h0 : ¬ next = 0 := by rintro rfl; simp [nextBad] at hb
    have h1 : next < 65536 ∨ 65536 ≤ next ∧ 1000000001 < next := by simp [nextBad] at hb; omega
    clear hb hr
    rcases h1 with h1 | ⟨h1, h2⟩
    all_goals
      go_enter Tryz.func81, Tryz.ntmps81
      go_wp2
      go_ret
      exact ⟨rfl, by go_grown⟩

end Go.Proofs.YtnpaejknoipicafGreat
