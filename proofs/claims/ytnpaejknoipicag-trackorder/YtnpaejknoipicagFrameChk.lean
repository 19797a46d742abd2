/-
  Contracts: frame.isBegun, frame.checkBuilder: as the document has it, slot by slot.
-/
import Derived.Test.YtnpaejknoipicagSlotFits
import Derived.Test.YtnpaejknoipicagRefBuild
namespace Go.Proofs.Ytnpaejknoipicag
open Go.RowKit Go.Sort

/-- does the slot at a place go on with what is open? -/
def qO (l : List Sk) (k : Nat) : Bool := if k = 0 then (l[k]?.getD Sk.zero).p.f && !(l[k]?.getD Sk.zero).p.e else !(l[k]?.getD Sk.zero).p.f && !(l[k]?.getD Sk.zero).p.e && folB (l[k - 1]?.getD Sk.zero) (l[k]?.getD Sk.zero)

theorem fit_ogo (l : List Sk) : ∀ (m : List Sk) (k : Nat), l.drop k = m → chkFit (qO l) k m = ogo (if k = 0 then none else some (l[k - 1]?.getD Sk.zero)) m
  | [], _, _ => by simp [chkFit, ogo]
  | x :: r, k, hd => by
    have hk : k < l.length := by
      by_cases h : k < l.length
      · exact h
      · rw [List.drop_eq_nil_of_le (by omega)] at hd; cases hd
    have hx : l[k]?.getD Sk.zero = x := by
      rw [List.drop_eq_getElem_cons hk] at hd
      injection hd with h1 h2
      rw [List.getElem?_eq_getElem hk, Option.getD_some, h1]
    have hr : l.drop (k + 1) = r := by
      rw [List.drop_eq_getElem_cons hk] at hd
      injection hd
    have ih := fit_ogo l r (k + 1) hr
    rw [if_neg (by omega), show k + 1 - 1 = k by omega, hx] at ih
    have hq : qO l k = !badO (if k = 0 then none else some (l[k - 1]?.getD Sk.zero)) x := by
      unfold qO badO
      rw [hx]
      by_cases h0 : k = 0
      · rw [if_pos h0, if_pos h0]; cases x.p.f <;> cases x.p.e <;> rfl
      · rw [if_neg h0, if_neg h0]
        simp only [nextB]
        cases x.p.f <;> cases x.p.e <;> simp
    simp only [chkFit, ogo]
    by_cases hc : x.chk = 0
    · rw [if_pos hc, if_pos hc, hq]
      cases hb : badO (if k = 0 then none else some (l[k - 1]?.getD Sk.zero)) x
      · simp only [Bool.not_false, if_true, Bool.false_eq_true, if_false]; exact ih
      · simp
    · rw [if_neg hc, if_neg hc]
theorem fit_open (l : List Sk) : chkFit (qO l) 0 l = ogo none l := fit_ogo l l 0 rfl

set_option maxHeartbeats 6000000 in
set_option maxRecDepth 100000 in
theorem isBegun_any (v : Value) (l : List Sk) (k : Nat) (w : World) (hv : Sls w v l) (hk : k < l.length) (hlen : l.length ≤ 9223372036854775807) (hn : ¬ k = 0 → 0 ≤ (l[k - 1]?.getD Sk.zero).n ∧ (l[k - 1]?.getD Sk.zero).n ≤ 1000000001) :
    Calls Try.prog 64 #[v, .int .i64 k] w fun e w' => e = .returned (.bool (qO l k)) ∧ Below w.heap.size w w' := by
  obtain ⟨ao, c, rfl, hc⟩ := hv.parts
  obtain ⟨n, hnn⟩ : ∃ n, n = l.length := ⟨_, rfl⟩
  rw [← hnn] at hc hk hlen ⊢
  obtain ⟨b, off, rfl, hb, hat⟩ := hc k hk
  obtain ⟨x, hx⟩ : ∃ x, x = l[k]?.getD Sk.zero := ⟨_, rfl⟩
  obtain ⟨r, hr⟩ : ∃ r, r = qO l k := ⟨_, rfl⟩
  rw [← hr]
  have hr' : r = if k = 0 then x.p.f && !x.p.e else !x.p.f && !x.p.e && folB (l[k - 1]?.getD Sk.zero) x := by rw [hr, hx]; rfl
  rw [← hx] at hat
  have hki : (k : Int) < (n : Int) := by omega
  obtain ⟨g0, g1, g2, g3, g4, g5, g6⟩ := hat
  clear hr hx hnn
  by_cases hk0 : k = 0
  · subst hk0
    rw [if_pos rfl] at hr'
    simp only [Nat.zero_mul, Nat.add_zero] at g0 g1 g2 g3 g4 g5 g6
    subst hr'
    clear hc hv hn
    have hn0 : (0 : Int) < (n : Int) := by omega
    cases hf : x.p.f <;> cases he : x.p.e <;> rw [hf] at g3 <;> rw [he] at g4
    all_goals
      go_enter Try.func64, Try.ntmps64
      go_wp2
      go_quiet (fail)
      go_wp2
      go_ret
      exact ⟨rfl, below_drewN ((Below.refl _ _).alloc (Nat.le_refl _) _) _⟩
  · obtain ⟨j, hj⟩ : ∃ j, j = k - 1 := ⟨_, rfl⟩
    rw [if_neg hk0, ← hj] at hr'
    have hyb := hn hk0
    rw [← hj] at hyb
    obtain ⟨b2, off2, e2, hb2, hat2⟩ := hc j (by omega)
    simp only [Option.some.injEq, Addr.mk.injEq, and_true] at e2
    obtain ⟨rfl, rfl⟩ := e2
    obtain ⟨y, hy⟩ : ∃ y, y = l[j]?.getD Sk.zero := ⟨_, rfl⟩
    rw [← hy] at hat2 hr' hyb
    obtain ⟨p0, p1, p2, p3, p4, p5, p6⟩ := hat2
    have hji : (j : Int) < (n : Int) := by omega
    have hj1 : (k : Int) - 1 = (j : Int) := by omega
    have hkb : ((k : Int) == 0) = false := by simp; omega
    clear hy hc hv hn hj hk0
    cases hf : x.p.f
    · cases he : x.p.e
      · obtain ⟨t, ht⟩ : ∃ t, t = folB y x := ⟨_, rfl⟩
        rw [hf, he, ← ht] at hr'
        simp only [Bool.not_false, Bool.true_and] at hr'
        subst hr'
        obtain ⟨W, hW⟩ : ∃ W, W = w.alloc (.cells #[.int .i64 x.p.seq, .int .i64 x.p.time, .bool x.p.f, .bool x.p.e, .bool x.p.k, .string x.p.t] 36) := ⟨_, rfl⟩
        have bW : Below w.heap.size w W := by rw [hW]; exact (Below.refl _ w).alloc (Nat.le_refl _) _
        have kW : Blk W w.heap.size #[.int .i64 x.p.seq, .int .i64 x.p.time, .bool x.p.f, .bool x.p.e, .bool x.p.k, .string x.p.t] 36 := by rw [hW]; exact Blk.new w _ _
        have cF : ∀ d os, Calls Try.prog 78 #[.agg #[.int .i64 y.n, .int .i64 y.p.seq, .int .i64 y.p.time, .bool y.p.f, .bool y.p.e, .bool y.p.k, .string y.p.t], .agg #[.int .i64 x.n, .int .i64 x.p.seq, .int .i64 x.p.time, .bool x.p.f, .bool x.p.e, .bool x.p.k, .string x.p.t]] (grow (redrawn W d) os) fun e w'' => e = .returned (.bool r) ∧ ∃ p : Regrown, w'' = grow (redrawn W p.d) p.os := fun d os =>
          Calls.regrown_of (by rw [ht]; exact follows_any y x (grow (redrawn W d) os) hyb)
        have BW : Hid (Below w.heap.size w W) := bW
        have cel : ∀ (i : Nat) (u : Value), w.cell? ⟨b, i, none⟩ = some u → W.cell? ⟨b, i, none⟩ = some u := fun i u h => (bW.cell (p := ⟨b, i, none⟩) hb).trans h
        have k2 := kW.cell (j := 2) (u := .bool x.p.f) rfl
        have k3 := kW.cell (j := 3) (u := .bool x.p.e) rfl
        rw [hf] at k2 g3 cF hW
        rw [he] at k3 g4 cF hW
        have q0 := cell_regrown (cel _ _ p0)
        have q1 := cell_regrown (cel _ _ p1)
        have q2 := cell_regrown (cel _ _ p2)
        have q3 := cell_regrown (cel _ _ p3)
        have q4 := cell_regrown (cel _ _ p4)
        have q5 := cell_regrown (cel _ _ p5)
        have q6 := cell_regrown (cel _ _ p6)
        have z0 := cell_regrown (cel _ _ g0)
        have z1 := cell_regrown (cel _ _ g1)
        have z2 := cell_regrown (cel _ _ g2)
        have z3 := cell_regrown (cel _ _ g3)
        have z4 := cell_regrown (cel _ _ g4)
        have z5 := cell_regrown (cel _ _ g5)
        have z6 := cell_regrown (cel _ _ g6)
        have m2 := cell_regrown k2
        have m3 := cell_regrown k3
        have hwr : IntKind.i64.wrap (j : Int) = (j : Int) := by rw [IntKind.wrap_i64]; omega
        clear p0 p1 p2 p3 p4 p5 p6 k2 k3 kW bW cel ht
        go_enter Try.func64, Try.ntmps64
        go_wp2
        rw [← hW]
        clear hW g0 g1 g2 g3 g4 g5 g6
        refine wp_region_quiet_below (by kernel_rfl) (by kernel_rfl) ?_
        repeat (quiet_step (exact cF _ _))
        refine wpQuiet_nil ?_
        intro _ hw'
        obtain ⟨⟨dq, osq⟩, hw''⟩ := hw'
        subst hw''
        have bR := below_regrown W dq osq
        have BR : Hid (Below w.heap.size w (grow (redrawn W dq) osq)) := BW.out.trans (bR.mono BW.out.size)
        clear bR
        go_wp2
        go_ret
        exact ⟨rfl, BR.out⟩
      · rw [hf, he] at hr'
        simp only [Bool.not_true, Bool.and_false, Bool.false_and] at hr'
        subst hr'
        rw [hf] at g3
        rw [he] at g4
        go_enter Try.func64, Try.ntmps64
        go_wp2
        go_quiet (fail)
        go_wp2
        go_ret
        exact ⟨rfl, below_drewN ((Below.refl _ _).alloc (Nat.le_refl _) _) _⟩
    · rw [hf] at hr'
      simp only [Bool.not_true, Bool.false_and] at hr'
      subst hr'
      rw [hf] at g3
      go_enter Try.func64, Try.ntmps64
      go_wp2
      go_quiet (fail)
      go_wp2
      go_ret
      exact ⟨rfl, below_drewN ((Below.refl _ _).alloc (Nat.le_refl _) _) _⟩

end Go.Proofs.Ytnpaejknoipicag
