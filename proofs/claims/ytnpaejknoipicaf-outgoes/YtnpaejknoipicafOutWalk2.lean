/-
  Contract: the sender's checkRoom.
-/
import Derived.Test.YtnpaejknoipicafOutWalk1
import Derived.Lib.QuietBelow
import Derived.Test.YtnpaejknoipicafQuietSkip
namespace Go.Proofs.Ytnpaejknoipicaf
open Go.RowKit Go.Sort

def roomE (l t s ft : Int) (pn : Nat) : Int := if ft + s < t then 4 else if 1000000 < ft + s then 2 else if 1000000000 < l + pn then 2 else 0

set_option maxHeartbeats 4000000 in
set_option maxRecDepth 100000 in
theorem checkRoom_any (M : Nat) (l t s ft : Int) (fk : Bool) (pa : Option Addr) (pn pc : Nat) (w : World) (hM : Blk w M #[.int .i64 l, .int .i64 t, .int .i64 s] 65) (hf0 : 0 ≤ ft) (hf1 : ft ≤ 1000000) (hs0 : -3000000 ≤ s) (hs1 : s ≤ 3000000) (hl0 : 0 ≤ l) (hl1 : l ≤ 1000000000) (hpn : pn ≤ 4) :
    Calls Try.prog 26 #[.pointer (some ⟨M, 0, none⟩), .agg #[.int .i64 ft, .bool fk, .slice pa pn pc]] w fun e w' => e = .returned (.int .i64 (roomE l t s ft pn)) ∧ Below w.heap.size w w' := by
  obtain ⟨W1, hW1⟩ : ∃ W1, W1 = w.alloc (.cells #[.int .i64 ft, .bool fk, .slice pa pn pc] 26) := ⟨_, rfl⟩
  obtain ⟨FB, hFB⟩ : ∃ n, n = w.heap.size := ⟨_, rfl⟩
  have HS1 : Hid (Stay W1 (fun U => (Blk U M #[.int .i64 l, .int .i64 t, .int .i64 s] 65 ∧ Blk U FB #[.int .i64 ft, .bool fk, .slice pa pn pc] 26) ∧ Below w.heap.size w U)) := by
    have hb : Below w.heap.size w W1 := by rw [hW1]; exact (Below.refl _ _).alloc (Nat.le_refl _) _
    exact ((hM.below hb hM.lt).stay.and (by rw [hFB]; exact (Blk.newE hW1).stay)).and (below_stay hb hb.size)
  obtain ⟨tm, htm⟩ : ∃ tm, tm = ft + s := ⟨_, rfl⟩
  have HT : Hid (∀ U : World, Blk U M #[.int .i64 l, .int .i64 t, .int .i64 s] 65 → Calls Try.prog 50 #[.pointer (some ⟨M, 0, none⟩), .agg #[.int .i64 ft, .bool fk, .slice pa pn pc]] U fun e w' => e = .returned (.int .i64 tm) ∧ Below U.heap.size U w') := fun U h => by
    rw [htm]; exact timeOf_any M l t s ft fk pa pn pc U h hf0 hf1 hs0 hs1
  obtain ⟨E, hE⟩ : ∃ E, E = roomE l t s ft pn := ⟨_, rfl⟩
  have HE : Hid (E = if tm < t then 4 else if 1000000 < tm then 2 else if 1000000000 < l + pn then 2 else 0) := by show _ = _; rw [hE, htm]; rfl
  rw [← hE]
  clear hM hE htm
  go_enter Try.func26, Try.ntmps26
  have mk : ∀ X : World, Below W1.heap.size W1 X → ∀ d os, Calls Try.prog 50 #[.pointer (some ⟨M, 0, none⟩), .agg #[.int .i64 ft, .bool fk, .slice pa pn pc]] (grow (redrawn X d) os) fun e w'' => e = .returned (.int .i64 tm) ∧ ∃ p : Regrown, w'' = grow (redrawn X p.d) p.os := fun X hX d os =>
    Calls.regrown_of (HT.out _ ((HS1.out X hX).1.1.below (below_regrown X d os) (HS1.out X hX).1.1.lt))
  have MK : Hid (∀ X : World, Below W1.heap.size W1 X → ∀ d os, Calls Try.prog 50 #[.pointer (some ⟨M, 0, none⟩), .agg #[.int .i64 ft, .bool fk, .slice pa pn pc]] (grow (redrawn X d) os) fun e w'' => e = .returned (.int .i64 tm) ∧ ∃ p : Regrown, w'' = grow (redrawn X p.d) p.os) := mk
  clear mk HT
  have cF := MK.out W1 (Below.refl _ _)
  obtain ⟨m0, m1, m2⟩ := HS1.out.now.1.1.three
  obtain ⟨f0, f1, f2⟩ := HS1.out.now.1.2.three
  have a0 := cell_regrown m0
  have a1 := cell_regrown m1
  have b0 := cell_regrown f0
  have b1 := cell_regrown f1
  have b2 := cell_regrown f2
  clear m0 m1 m2 f0 f1 f2
  go_wp2_with fail
  rw [← hW1, ← hFB]
  clear hW1 hFB
  refine wp_region_quiet_below (by kernel_rfl) (by kernel_rfl) ?_
  repeat (quiet_step (exact cF _ _))
  refine wpQuiet_nil ?_
  intro _ hw'
  obtain ⟨⟨dq, osq⟩, hw''⟩ := hw'
  subst hw''
  have bR := below_regrown W1 dq osq
  obtain ⟨V, hV⟩ : ∃ V, V = grow (redrawn W1 dq) osq := ⟨_, rfl⟩
  rw [← hV] at bR
  rw [← hV]
  have HB : Hid (Below W1.heap.size W1 V) := bR
  clear hV bR cF a0 a1 b0 b1 b2
  by_cases h1 : tm < t
  · have e : E = 4 := by rw [HE.out, if_pos h1]
    subst e
    go_wp2_with fail
    go_ret
    exact ⟨rfl, (HS1.out V HB.out).2⟩
  have cG := MK.out V HB.out
  obtain ⟨m0, m1, m2⟩ := (HS1.out V HB.out).1.1.three
  obtain ⟨f0, f1, f2⟩ := (HS1.out V HB.out).1.2.three
  have a0 := cell_regrown m0
  have a1 := cell_regrown m1
  have a2 := cell_regrown m2
  have b0 := cell_regrown f0
  have b1 := cell_regrown f1
  have b2 := cell_regrown f2
  clear m0 m1 m2 f0 f1 f2 MK
  by_cases h2 : 1000000 < tm
  · have e : E = 2 := by rw [HE.out, if_neg h1, if_pos h2]
    subst e
    go_wp2_with fail
    refine wp_region_quiet_below (by kernel_rfl) (by kernel_rfl) ?_
    iterate 4 (quiet_step (exact cG _ _))
    refine wpQuiet_step (fun K hK => ?_)
    go_simp
    generalize hA : Act.mk _ _ = A
    refine hK A ?_
    clear hK K
    refine wpQuiet_jump 10 (by rw [← hA]; kernel_rfl) (fun B hB => ?_)
    rw [← hA] at hB
    simp only [List.take, List.drop] at hB ⊢
    simp [putU, go_sem] at hB
    subst hB
    clear hA
    iterate 1 (quiet_step (exact cG _ _))
    refine wpQuiet_nil ?_
    intro _ hw'
    obtain ⟨⟨dq, osq⟩, hw''⟩ := hw'
    subst hw''
    have bR := below_regrown V dq osq
    obtain ⟨Y, hY⟩ : ∃ Y, Y = grow (redrawn V dq) osq := ⟨_, rfl⟩
    rw [← hY] at bR
    rw [← hY]
    have HBY : Hid (Below W1.heap.size W1 Y) := HB.out.trans (bR.mono HB.out.size)
    clear hY bR cG a0 a1 a2 b0 b1 b2
    go_wp2_with fail
    go_ret
    exact ⟨rfl, (HS1.out Y HBY.out).2⟩
  · have hwr : IntKind.i64.wrap (l + (pn : Int)) = l + (pn : Int) := by rw [IntKind.wrap_i64]; omega
    have h3i : 1000000000 < l + (pn : Int) ∨ ¬ 1000000000 < l + (pn : Int) := by omega
    rcases h3i with h3 | h3
    · have e : E = 2 := by rw [HE.out, if_neg h1, if_neg h2, if_pos h3]
      have d2 : decide (1000000 < tm) = false := decide_eq_false h2
      have d3 : decide (1000000000 < l + (pn : Int)) = true := decide_eq_true h3
      subst e
      go_wp2_with fail
      refine wp_region_quiet_below (by kernel_rfl) (by kernel_rfl) ?_
      repeat (quiet_step (exact cG _ _))
      refine wpQuiet_nil ?_
      intro _ hw'
      obtain ⟨⟨dq, osq⟩, hw''⟩ := hw'
      subst hw''
      have bR := below_regrown V dq osq
      obtain ⟨Y, hY⟩ : ∃ Y, Y = grow (redrawn V dq) osq := ⟨_, rfl⟩
      rw [← hY] at bR
      rw [← hY]
      have HBY : Hid (Below W1.heap.size W1 Y) := HB.out.trans (bR.mono HB.out.size)
      clear hY bR cG a0 a1 a2 b0 b1 b2
      go_wp2_with fail
      go_ret
      exact ⟨rfl, (HS1.out Y HBY.out).2⟩
    · have e : E = 0 := by rw [HE.out, if_neg h1, if_neg h2, if_neg h3]
      have d2 : decide (1000000 < tm) = false := decide_eq_false h2
      have d3 : decide (1000000000 < l + (pn : Int)) = false := decide_eq_false h3
      subst e
      go_wp2_with fail
      refine wp_region_quiet_below (by kernel_rfl) (by kernel_rfl) ?_
      repeat (quiet_step (exact cG _ _))
      refine wpQuiet_nil ?_
      intro _ hw'
      obtain ⟨⟨dq, osq⟩, hw''⟩ := hw'
      subst hw''
      have bR := below_regrown V dq osq
      obtain ⟨Y, hY⟩ : ∃ Y, Y = grow (redrawn V dq) osq := ⟨_, rfl⟩
      rw [← hY] at bR
      rw [← hY]
      have HBY : Hid (Below W1.heap.size W1 Y) := HB.out.trans (bR.mono HB.out.size)
      clear hY bR cG a0 a1 a2 b0 b1 b2
      go_wp2_with fail
      go_ret
      exact ⟨rfl, (HS1.out Y HBY.out).2⟩

end Go.Proofs.Ytnpaejknoipicaf
