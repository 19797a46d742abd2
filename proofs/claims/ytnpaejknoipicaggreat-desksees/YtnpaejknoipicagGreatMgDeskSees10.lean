/-
  Contract: the taker's add.
-/
import Derived.Test.YtnpaejknoipicagGreatMgDeskSees9
import Derived.Test.YtnpaejknoipicagGreatMgDeskSees2
import Derived.Test.YtnpaejknoipicagGreatMgDeskSees3
import Derived.Test.YtnpaejknoipicagGreatMgDeskSees7
import Derived.Test.YtnpaejknoipicagGreatMgDeskSees8
import Derived.Test.YtnpaejknoipicagGreatMgDeskSees6
import Derived.Test.YtnpaejknoipicagGreatMgDeskSees4

namespace Go.Proofs.YtnpaejknoipicagGreat
open Go.RowKit

theorem roomE_zero {l t s ft : Int} {n : Nat} : roomE l t s ft n = 0 ↔ t ≤ ft + s ∧ ft + s ≤ 1000000 ∧ l + n ≤ 1000000000 := by
  unfold roomE
  repeat' split
  all_goals first | omega | (constructor <;> intro h <;> omega)
theorem sd_zero {l t s : Int} {f : Fr} {turn : Bool} (h : sdE l t s f turn = 0) : sdO l t s f turn = (l + f.parts.length, f.time + sdS l t s f.time turn, sdS l t s f.time turn) ∧ sdP l t s f turn = pksOf l (f.time + sdS l t s f.time turn) f.key f.parts ∧ 0 ≤ l ∧ 0 ≤ t ∧ t ≤ f.time + sdS l t s f.time turn ∧ f.time + sdS l t s f.time turn ≤ 1000000 ∧ l + f.parts.length ≤ 1000000000 ∧ 0 < f.parts.length ∧ f.parts.length ≤ 4 ∧ 0 ≤ f.time ∧ f.time ≤ 1000000 ∧ f.chk = 0 := by
  obtain ⟨h1, h2, h3⟩ := sdE_zero.1 h
  obtain ⟨a1, a2, a3, a4, a5, a6⟩ := outE_zero.1 h1
  obtain ⟨r1, r2, r3⟩ := roomE_zero.1 h3
  obtain ⟨c1, c2, c3, c4, _⟩ := chkF_zero h2
  exact ⟨if_pos h, if_pos h, a1, a3, r1, r2, r3, c3, c4, c1, c2, h2⟩
theorem pksOf_at {last t : Int} {key : Bool} {ps : List ByteArray} {i : Nat} (h : i < ps.length) : (pksOf last t key ps)[i]?.getD Pk.zero = pkAt last t key ps i := by
  unfold pksOf pksK
  rw [List.getElem?_map, List.getElem?_range h]; rfl
end Go.Proofs.YtnpaejknoipicagGreat

namespace Go.Proofs.YtnpaejknoipicagGreat
open Go.RowKit Go.Sort

/-- does the slot at a place go on with what is open? -/
def qO (l : List Sk) (k : Nat) : Bool := if k = 0 then (l[k]?.getD Sk.zero).p.f && !(l[k]?.getD Sk.zero).p.e else !(l[k]?.getD Sk.zero).p.f && !(l[k]?.getD Sk.zero).p.e && folB (l[k - 1]?.getD Sk.zero) (l[k]?.getD Sk.zero)

theorem fit_ogo (l : List Sk) : ∀ (m : List Sk) (k : Nat), l.drop k = m → chkFit (qO l) k m = ogo (if k = 0 then none else some (l[k - 1]?.getD Sk.zero)) m
  | [], _, _ => by simp [chkFit, ogo]
  | x :: r, k, hd => by
    have hk : k < l.length := by
      by_cases h : k < l.length
      · exact h
      · rw [List.drop_eq_nil_of_le (by omega)] at hd; cases hd
    have hx : l[k]?.getD Sk.zero = x := by
      rw [List.drop_eq_getElem_cons hk] at hd
      injection hd with h1 h2
      rw [List.getElem?_eq_getElem hk, Option.getD_some, h1]
    have hr : l.drop (k + 1) = r := by
      rw [List.drop_eq_getElem_cons hk] at hd
      injection hd
    have ih := fit_ogo l r (k + 1) hr
    rw [if_neg (by omega), show k + 1 - 1 = k by omega, hx] at ih
    have hq : qO l k = !badO (if k = 0 then none else some (l[k - 1]?.getD Sk.zero)) x := by
      unfold qO badO
      rw [hx]
      by_cases h0 : k = 0
      · rw [if_pos h0, if_pos h0]; cases x.p.f <;> cases x.p.e <;> rfl
      · rw [if_neg h0, if_neg h0]
        simp only [nextB]
        cases x.p.f <;> cases x.p.e <;> simp
    simp only [chkFit, ogo]
    by_cases hc : x.chk = 0
    · rw [if_pos hc, if_pos hc, hq]
      cases hb : badO (if k = 0 then none else some (l[k - 1]?.getD Sk.zero)) x
      · simp only [Bool.not_false, if_true, Bool.false_eq_true, if_false]; exact ih
      · simp
    · rw [if_neg hc, if_neg hc]
theorem fit_open (l : List Sk) : chkFit (qO l) 0 l = ogo none l := fit_ogo l l 0 rfl

set_option maxHeartbeats 6000000 in
set_option maxRecDepth 100000 in
theorem isBegun_any (v : Value) (l : List Sk) (k : Nat) (w : World) (hv : Sls w v l) (hk : k < l.length) (hlen : l.length ≤ 9223372036854775807) (hn : ¬ k = 0 → 0 ≤ (l[k - 1]?.getD Sk.zero).n ∧ (l[k - 1]?.getD Sk.zero).n ≤ 1000000001) :
    Calls Tryz.prog 171 #[v, .int .i64 k] w fun e w' => e = .returned (.bool (qO l k)) ∧ Below w.heap.size w w' := by
  obtain ⟨ao, c, rfl, hc⟩ := hv.parts
  obtain ⟨n, hnn⟩ : ∃ n, n = l.length := ⟨_, rfl⟩
  rw [← hnn] at hc hk hlen ⊢
  obtain ⟨b, off, rfl, hb, hat⟩ := hc k hk
  obtain ⟨x, hx⟩ : ∃ x, x = l[k]?.getD Sk.zero := ⟨_, rfl⟩
  obtain ⟨r, hr⟩ : ∃ r, r = qO l k := ⟨_, rfl⟩
  rw [← hr]
  have hr' : r = if k = 0 then x.p.f && !x.p.e else !x.p.f && !x.p.e && folB (l[k - 1]?.getD Sk.zero) x := by rw [hr, hx]; rfl
  rw [← hx] at hat
  have hki : (k : Int) < (n : Int) := by omega
  obtain ⟨g0, g1, g2, g3, g4, g5, g6⟩ := hat
  clear hr hx hnn
  by_cases hk0 : k = 0
  · subst hk0
    rw [if_pos rfl] at hr'
    simp only [Nat.zero_mul, Nat.add_zero] at g0 g1 g2 g3 g4 g5 g6
    subst hr'
    clear hc hv hn
    have hn0 : (0 : Int) < (n : Int) := by omega
    cases hf : x.p.f <;> cases he : x.p.e <;> rw [hf] at g3 <;> rw [he] at g4
    all_goals
      go_enter Tryz.func171, Tryz.ntmps171
      go_wp2
      go_quiet (fail)
      go_wp2
      go_ret
      exact ⟨rfl, below_drewN ((Below.refl _ _).alloc (Nat.le_refl _) _) _⟩
  · obtain ⟨j, hj⟩ : ∃ j, j = k - 1 := ⟨_, rfl⟩
    rw [if_neg hk0, ← hj] at hr'
    have hyb := hn hk0
    rw [← hj] at hyb
    obtain ⟨b2, off2, e2, hb2, hat2⟩ := hc j (by omega)
    simp only [Option.some.injEq, Addr.mk.injEq, and_true] at e2
    obtain ⟨rfl, rfl⟩ := e2
    obtain ⟨y, hy⟩ : ∃ y, y = l[j]?.getD Sk.zero := ⟨_, rfl⟩
    rw [← hy] at hat2 hr' hyb
    obtain ⟨p0, p1, p2, p3, p4, p5, p6⟩ := hat2
    have hji : (j : Int) < (n : Int) := by omega
    have hj1 : (k : Int) - 1 = (j : Int) := by omega
    have hkb : ((k : Int) == 0) = false := by simp; omega
    clear hy hc hv hn hj hk0
    cases hf : x.p.f
    · cases he : x.p.e
      · obtain ⟨t, ht⟩ : ∃ t, t = folB y x := ⟨_, rfl⟩
        rw [hf, he, ← ht] at hr'
        simp only [Bool.not_false, Bool.true_and] at hr'
        subst hr'
        obtain ⟨W, hW⟩ : ∃ W, W = w.alloc (.cells #[.int .i64 x.p.seq, .int .i64 x.p.time, .bool x.p.f, .bool x.p.e, .bool x.p.k, .string x.p.t] 63) := ⟨_, rfl⟩
        have bW : Below w.heap.size w W := by rw [hW]; exact (Below.refl _ w).alloc (Nat.le_refl _) _
        have kW : Blk W w.heap.size #[.int .i64 x.p.seq, .int .i64 x.p.time, .bool x.p.f, .bool x.p.e, .bool x.p.k, .string x.p.t] 63 := by rw [hW]; exact Blk.new w _ _
        have cF : ∀ d os, Calls Tryz.prog 150 #[.agg #[.int .i64 y.n, .int .i64 y.p.seq, .int .i64 y.p.time, .bool y.p.f, .bool y.p.e, .bool y.p.k, .string y.p.t], .agg #[.int .i64 x.n, .int .i64 x.p.seq, .int .i64 x.p.time, .bool x.p.f, .bool x.p.e, .bool x.p.k, .string x.p.t]] (grow (redrawn W d) os) fun e w'' => e = .returned (.bool r) ∧ ∃ p : Regrown, w'' = grow (redrawn W p.d) p.os := fun d os =>
          Calls.regrown_of (by rw [ht]; exact follows_any y x (grow (redrawn W d) os) hyb)
        have BW : Hid (Below w.heap.size w W) := bW
        have cel : ∀ (i : Nat) (u : Value), w.cell? ⟨b, i, none⟩ = some u → W.cell? ⟨b, i, none⟩ = some u := fun i u h => (bW.cell (p := ⟨b, i, none⟩) hb).trans h
        have k2 := kW.cell (j := 2) (u := .bool x.p.f) rfl
        have k3 := kW.cell (j := 3) (u := .bool x.p.e) rfl
        rw [hf] at k2 g3 cF hW
        rw [he] at k3 g4 cF hW
        have q0 := cell_regrown (cel _ _ p0)
        have q1 := cell_regrown (cel _ _ p1)
        have q2 := cell_regrown (cel _ _ p2)
        have q3 := cell_regrown (cel _ _ p3)
        have q4 := cell_regrown (cel _ _ p4)
        have q5 := cell_regrown (cel _ _ p5)
        have q6 := cell_regrown (cel _ _ p6)
        have z0 := cell_regrown (cel _ _ g0)
        have z1 := cell_regrown (cel _ _ g1)
        have z2 := cell_regrown (cel _ _ g2)
        have z3 := cell_regrown (cel _ _ g3)
        have z4 := cell_regrown (cel _ _ g4)
        have z5 := cell_regrown (cel _ _ g5)
        have z6 := cell_regrown (cel _ _ g6)
        have m2 := cell_regrown k2
        have m3 := cell_regrown k3
        have hwr : IntKind.i64.wrap (j : Int) = (j : Int) := by rw [IntKind.wrap_i64]; omega
        clear p0 p1 p2 p3 p4 p5 p6 k2 k3 kW bW cel ht
        go_enter Tryz.func171, Tryz.ntmps171
        go_wp2
        rw [← hW]
        clear hW g0 g1 g2 g3 g4 g5 g6
        refine wp_region_quiet_below (by kernel_rfl) (by kernel_rfl) ?_
        repeat (quiet_step (exact cF _ _))
        refine wpQuiet_nil ?_
        intro _ hw'
        obtain ⟨⟨dq, osq⟩, hw''⟩ := hw'
        subst hw''
        have bR := below_regrown W dq osq
        have BR : Hid (Below w.heap.size w (grow (redrawn W dq) osq)) := BW.out.trans (bR.mono BW.out.size)
        clear bR
        go_wp2
        go_ret
        exact ⟨rfl, BR.out⟩
      · rw [hf, he] at hr'
        simp only [Bool.not_true, Bool.and_false, Bool.false_and] at hr'
        subst hr'
        rw [hf] at g3
        rw [he] at g4
        go_enter Tryz.func171, Tryz.ntmps171
        go_wp2
        go_quiet (fail)
        go_wp2
        go_ret
        exact ⟨rfl, below_drewN ((Below.refl _ _).alloc (Nat.le_refl _) _) _⟩
    · rw [hf] at hr'
      simp only [Bool.not_true, Bool.false_and] at hr'
      subst hr'
      rw [hf] at g3
      go_enter Tryz.func171, Tryz.ntmps171
      go_wp2
      go_quiet (fail)
      go_wp2
      go_ret
      exact ⟨rfl, below_drewN ((Below.refl _ _).alloc (Nat.le_refl _) _) _⟩

end Go.Proofs.YtnpaejknoipicagGreat

namespace Go.Proofs.YtnpaejknoipicagGreat
open Go.RowKit

theorem chkFit_all (q : Nat → Bool) : ∀ (l : List Sk) (i : Nat), chkFit q i l = 0 → ∀ x ∈ l, x.chk = 0
  | [], _, _, x, hx => absurd hx List.not_mem_nil
  | y :: r, i, h, x, hx => by
    simp only [chkFit] at h
    by_cases hy : y.chk = 0
    · rw [if_pos hy] at h
      cases hq : q i
      · rw [hq] at h; simp at h
      · rw [hq, if_pos rfl] at h
        rcases List.mem_cons.1 hx with rfl | hx
        · exact hy
        · exact chkFit_all q r (i + 1) h x hx
    · rw [if_neg hy] at h; exact absurd h hy

/-- a closure that tells q of a place where all ahead is right, and changes nothing that was there -/
def FitsR (g : Nat) (lb : Array Value) (q : Nat → Bool) (l : List Sk) (w : World) : Prop :=
  ∀ (W : World) (k : Nat), k < l.length → (∀ x ∈ l.take k, x.chk = 0) → Below w.heap.size w W → Calls Tryz.prog g (#[.int .i64 k] ++ lb) W fun e w' => e = .returned (.bool (q k)) ∧ Below W.heap.size W w'

set_option maxHeartbeats 1600000 in
theorem checkAllR_any (g : Nat) (lb : Array Value) (q : Nat → Bool) (eg : Enters Tryz.prog g) (v : Value) (l : List Sk) (w : World) (hv : Sls w v l) (hlen : l.length ≤ 9223372036854775807) (hq : FitsR g lb q l w) :
    Calls Tryz.prog 130 #[v, .func (.func g) #[] lb] w fun e w' => e = .returned (.int .i64 (chkFit q 0 l)) ∧ Below w.heap.size w w' := by
  obtain ⟨ao, c, rfl, hc⟩ := hv.parts
  have HC : Hid (∀ k, k < l.length → ∃ b off, ao = some ⟨b, off, none⟩ ∧ b < w.heap.size ∧ At7 w b (off + k * 7) (l[k]?.getD Sk.zero)) := hc
  have HQ : Hid (FitsR g lb q l w) := hq
  obtain ⟨n, hn⟩ : ∃ n, n = l.length := ⟨_, rfl⟩
  have HN : Hid (n = l.length) := hn
  have eg' : ∀ (args : Array Value) (w : World), (callFunc g args).run Tryz.prog w = .ok (.enter g args) w := eg
  rw [← hn] at hlen ⊢
  clear hc hv hn hq eg
  go_enter Tryz.func130, Tryz.ntmps130
  go_wp2
  go_loopw [10] (fun i wr => ∃ k : Nat, k ≤ n ∧ i = .int .i64 k ∧ Hid (chkFit q 0 (l.take k) = 0) ∧ Below w.heap.size w wr)
    (fun i _ => n - (intOf i).toNat)
  case atStart => exact ⟨0, Nat.zero_le _, rfl, (show chkFit q 0 (l.take 0) = 0 from rfl), Below.refl _ _⟩
  case round =>
    obtain ⟨k, hk, rfl, HK, hbel⟩ := hrel
    by_cases hlt : k < n
    · obtain ⟨b, off, rfl, hb, hat⟩ := HC.out k (by rw [← HN.out]; exact hlt)
      obtain ⟨c0, c1, c2, c3, c4, c5, c6⟩ := hat.below hbel hb
      obtain ⟨x, hx⟩ : ∃ x, x = l[k]?.getD Sk.zero := ⟨_, rfl⟩
      rw [← hx] at c0 c1 c2 c3 c4 c5 c6
      have HX : Hid (x = l[k]?.getD Sk.zero) := hx
      clear hx hat
      obtain ⟨ch, hch⟩ : ∃ ch, ch = x.chk := ⟨_, rfl⟩
      have HCH : Hid (ch = x.chk) := hch
      have hck : ∀ w : World, Calls Tryz.prog 83 #[x.val] w fun e w' => e = .returned (.int .i64 ch) ∧ Below w.heap.size w w' := fun w => by rw [hch]; exact slotCheck_any x w
      clear hch
      obtain ⟨qk, hqk⟩ : ∃ qk, qk = q k := ⟨_, rfl⟩
      have HQK : Hid (qk = q k) := hqk
      have hfit : ∀ W : World, Below w.heap.size w W → Calls Tryz.prog g (#[.int .i64 k] ++ lb) W fun e w' => e = .returned (.bool qk) ∧ Below W.heap.size W w' := fun W hW => by rw [hqk]; exact HQ.out W k (by rw [← HN.out]; exact hlt) (chkFit_all _ _ _ HK.out) hW
      have HF : Hid (∀ W : World, Below w.heap.size w W → Calls Tryz.prog g (#[.int .i64 k] ++ lb) W fun e w' => e = .returned (.bool qk) ∧ Below W.heap.size W w') := hfit
      clear hqk hfit
      obtain ⟨xn, seq, time, xf, xe, xk, xt⟩ := x
      simp only [Sk.val] at hck c0 c1 c2 c3 c4 c5 c6
      have HB : Hid (Below w.heap.size w wr) := hbel
      clear hbel
      by_cases h0 : ch = 0
      · subst h0
        cases qk
        · go_wp2_with (first
            | (go_at_call 83; refine (hck _).mono ?_; rintro e w1 ⟨rfl, hbw⟩; have HB1 : Hid (Below w.heap.size w w1) := HB.out.trans (((Below.refl _ _).alloc HB.out.size _).trans (hbw.mono (by have := HB.out.size; simp; omega))))
            | (go_at_fn g; refine (HF.out _ HB1.out).mono ?_; rintro e w2 ⟨rfl, hbw2⟩))
          go_ret
          exact ⟨by rw [chkFit_no2 (by rw [← HN.out]; exact hlt) HK.out (by rw [← HX.out]; exact HCH.out.symm) HQK.out.symm]; rfl, HB1.out.trans (hbw2.mono HB1.out.size)⟩
        · go_wp2_with (first
            | (go_at_call 83; refine (hck _).mono ?_; rintro e w1 ⟨rfl, hbw⟩; have HB1 : Hid (Below w.heap.size w w1) := HB.out.trans (((Below.refl _ _).alloc HB.out.size _).trans (hbw.mono (by have := HB.out.size; simp; omega))))
            | (go_at_fn g; refine (HF.out _ HB1.out).mono ?_; rintro e w2 ⟨rfl, hbw2⟩))
          go_roundw
          case rel => exact ⟨k + 1, by omega, by go_num, (show chkFit q 0 (l.take (k + 1)) = 0 from chkFit_ok (by rw [← HN.out]; exact hlt) HK.out (by rw [← HX.out]; exact HCH.out.symm) HQK.out.symm), HB1.out.trans (hbw2.mono HB1.out.size)⟩
          case measure => simp [intOf]; omega
      · go_wp2_with (go_at_call 83; refine (hck _).mono ?_; rintro e w' ⟨rfl, hbw⟩)
        go_ret
        exact ⟨by rw [chkFit_no1 (by rw [← HN.out]; exact hlt) HK.out (by rw [← HX.out, ← HCH.out]; exact h0), ← HX.out, ← HCH.out]; rfl, HB.out.trans (((Below.refl _ _).alloc HB.out.size _).trans (hbw.mono (by have := HB.out.size; simp; omega)))⟩
    · have hkl : k = n := by omega
      subst hkl
      go_wp2
      go_ret
      have hk0 := HK.out
      rw [HN.out, List.take_length] at hk0
      rw [hk0]
      exact ⟨rfl, hbel⟩

end Go.Proofs.YtnpaejknoipicagGreat

namespace Go.Proofs.YtnpaejknoipicagGreat
open Go.RowKit

set_option maxHeartbeats 400000 in
theorem begunLit_fits (v : Value) (l : List Sk) (B : Nat) (w : World) (hB : Blk w B #[v] 26) (hv : Sls w v l) (hlen : l.length ≤ 9223372036854775807) :
    FitsR 170 #[.pointer (some ⟨B, 0, none⟩)] (qO l) l w := fun W k hk hok hb => by
  have hBW := hB.below hb hB.lt
  have c0 := hBW.one
  have hcall := isBegun_any v l k W (hv.below hb) hk hlen (fun h0 => by
    have hk1 : k - 1 < l.length := by omega
    rw [List.getElem?_eq_getElem hk1, Option.getD_some]
    have := Sk.chk_zero (hok l[k - 1] (by
      rw [List.mem_iff_getElem]
      exact ⟨k - 1, by simp; omega, by simp⟩))
    omega)
  obtain ⟨q, hq⟩ : ∃ q, q = qO l k := ⟨_, rfl⟩
  rw [← hq] at hcall ⊢
  obtain ⟨a, c, rfl⟩ := hv.len
  clear hq hBW hB hv hok
  show Calls Tryz.prog 170 #[.int .i64 k, .pointer (some ⟨B, 0, none⟩)] W _
  go_enter Tryz.func170, Tryz.ntmps170
  go_wp2_with (go_at_call 171; refine hcall.mono ?_; rintro e w1 ⟨rfl, hbw⟩)
  go_ret
  exact ⟨rfl, hbw⟩

set_option maxHeartbeats 1000000 in
theorem checkBuilder_any (v : Value) (l : List Sk) (w : World) (hv : Sls w v l) (hlen : l.length ≤ 9223372036854775807) :
    Calls Tryz.prog 156 #[.agg #[v]] w fun e w' => e = .returned (.int .i64 (ochk l)) ∧ Below w.heap.size w w' := by
  obtain ⟨a, c, hva⟩ := hv.len
  obtain ⟨n, hn⟩ : ∃ n, n = l.length := ⟨_, rfl⟩
  rw [← hn] at hva
  have hr : ochk l = if 4 ≤ n then 2 else ogo none l := by rw [hn]; rfl
  rw [hr]
  have hln : n ≤ 9223372036854775807 := by omega
  have hcA : Calls Tryz.prog 130 #[v, .func (.func 170) #[] #[.pointer (some ⟨w.heap.size, 0, none⟩)]] (w.alloc (.cells #[v] 26)) fun e w' => e = .returned (.int .i64 (ogo none l)) ∧ Below (w.alloc (.cells #[v] 26)).heap.size (w.alloc (.cells #[v] 26)) w' := by
    rw [← fit_open]
    exact checkAllR_any 170 #[.pointer (some ⟨w.heap.size, 0, none⟩)] (qO l) (enters_of Tryz.func170 (by kernel_rfl) rfl) v l _ (hv.alloc _) hlen (begunLit_fits v l w.heap.size _ (Blk.new w _ _) (hv.alloc _) hlen)
  obtain ⟨r, hrr⟩ : ∃ r, r = ogo none l := ⟨_, rfl⟩
  rw [← hrr] at hcA ⊢
  have HA : Hid (Calls Tryz.prog 130 #[v, .func (.func 170) #[] #[.pointer (some ⟨w.heap.size, 0, none⟩)]] (w.alloc (.cells #[v] 26)) fun e w' => e = .returned (.int .i64 r) ∧ Below (w.alloc (.cells #[v] 26)).heap.size (w.alloc (.cells #[v] 26)) w') := hcA
  clear hr hrr hcA hv hn hlen
  subst hva
  by_cases h4 : 4 ≤ n
  · rw [if_pos h4]
    go_enter Tryz.func156, Tryz.ntmps156
    go_wp2
    go_ret
    exact ⟨rfl, by go_grown⟩
  · rw [if_neg h4]
    go_enter Tryz.func156, Tryz.ntmps156
    go_wp2_with fail
    refine HA.out.mono ?_
    rintro e w1 ⟨rfl, hb1⟩
    have B1 : Hid (Below w.heap.size w w1) := ((Below.refl _ w).alloc (Nat.le_refl _) _).trans (hb1.mono (by simp))
    clear hb1
    go_wp2
    go_ret
    exact ⟨rfl, B1.out⟩

/-- the errno of Add, and what comes of it -/
def addE (l : List Sk) (x : Sk) : Int := if ochk l = 0 then x.chk else ochk l
theorem frameAdd_bad (v : Value) (l : List Sk) (x : Sk) (w : World) (hv : Sls w v l) (hlen : l.length ≤ 9223372036854775807) (hE : ¬ addE l x = 0) :
    Calls Tryz.prog 133 #[.agg #[v], x.val] w fun e w' => e = .returned (.tuple #[.agg #[.slice none 0 0], .agg #[.int .i64 0, .bool false, .slice none 0 0], .bool false, .int .i64 (addE l x)]) ∧ Below w.heap.size w w' :=
  frameAdd_no (ochk l) v l x w hv (fun w' hs => checkBuilder_any v l w' hs hlen) (addE l x) rfl hE
theorem addE_zero {l : List Sk} {x : Sk} (h : addE l x = 0) : ochk l = 0 ∧ x.chk = 0 ∧ l.length ≤ 3 ∧ ∀ y ∈ l, y.chk = 0 := by
  unfold addE at h
  by_cases h0 : ochk l = 0
  · rw [if_pos h0] at h
    have h1 := h0
    unfold ochk at h1
    by_cases h4 : 4 ≤ l.length
    · rw [if_pos h4] at h1; omega
    · rw [if_neg h4] at h1
      exact ⟨h0, h, by omega, ogo_all l none h1⟩
  · rw [if_neg h0] at h; exact absurd h h0
theorem frameAdd_good (v : Value) (l : List Sk) (x : Sk) (w : World) (hv : Sls w v l) (hE : addE l x = 0) :
    Calls Tryz.prog 133 #[.agg #[v], x.val] w fun e w' => ∃ ov pv, e = .returned (.tuple #[.agg #[ov], .agg #[.int .i64 (addT l x), .bool (addK l x), pv], .bool (addW l x), .int .i64 0]) ∧
      (Sls w' ov (addO l x) ∧ Strs w' pv (addP l x) ∧ (∀ g, ov.ownBlock = some g → w.heap.size ≤ g ∧ g < w'.heap.size) ∧ ∀ g, pv.ownBlock = some g → w.heap.size ≤ g ∧ g < w'.heap.size) ∧ Below w.heap.size w w' := by
  obtain ⟨h0, hx, h3, hl⟩ := addE_zero hE
  exact frameAdd_ok v l x w hv (fun w' hs => by rw [← h0]; exact checkBuilder_any v l w' hs (by omega)) h3 hl hx

/-- what Add answers: nothing beside an errno -/
structure AddR where
  o : List Sk
  t : Int
  k : Bool
  p : List ByteArray
  b : Bool
def addR (l : List Sk) (x : Sk) : AddR := if addE l x = 0 then ⟨addO l x, addT l x, addK l x, addP l x, addW l x⟩ else ⟨[], 0, false, [], false⟩
theorem frameAdd_any (v : Value) (l : List Sk) (x : Sk) (w : World) (hv : Sls w v l) (hlen : l.length ≤ 9223372036854775807) :
    Calls Tryz.prog 133 #[.agg #[v], x.val] w fun e w' => ∃ ov pv, e = .returned (.tuple #[.agg #[ov], .agg #[.int .i64 (addR l x).t, .bool (addR l x).k, pv], .bool (addR l x).b, .int .i64 (addE l x)]) ∧
      (Sls w' ov (addR l x).o ∧ Strs w' pv (addR l x).p ∧ (∀ g, ov.ownBlock = some g → w.heap.size ≤ g ∧ g < w'.heap.size) ∧ ∀ g, pv.ownBlock = some g → w.heap.size ≤ g ∧ g < w'.heap.size) ∧ Below w.heap.size w w' := by
  by_cases hE : addE l x = 0
  · have hr : addR l x = ⟨addO l x, addT l x, addK l x, addP l x, addW l x⟩ := by unfold addR; rw [if_pos hE]
    rw [hr, hE]
    exact frameAdd_good v l x w hv hE
  · have hr : addR l x = ⟨[], 0, false, [], false⟩ := by unfold addR; rw [if_neg hE]
    rw [hr]
    refine (frameAdd_bad v l x w hv hlen hE).mono ?_
    rintro e w' ⟨rfl, hb⟩
    exact ⟨_, _, rfl, ⟨Sls.nil _, Strs.nil _, fun g hg => by simp [Value.ownBlock] at hg, fun g hg => by simp [Value.ownBlock] at hg⟩, hb⟩

end Go.Proofs.YtnpaejknoipicagGreat

namespace Go.Proofs.YtnpaejknoipicagGreat

/-- a viewer: a cursor, and a stream -/
structure Vw where
  m : Int
  g : Int
  f : Int
  l : Int
  t : Int
  s : Int
def Vw.zero : Vw := ⟨0, 0, 0, 0, 0, 0⟩
def Vw.fresh (v : Vw) : Bool := v.m == 0 && (v.g == 0 && v.f == 0)
def Vw.chk (v : Vw) : Int := if v.fresh = true ∨ curE v.m v.g v.f = 0 then outE v.l v.t v.s else curE v.m v.g v.f
/-- the cursor set -/
def Vw.cur (v : Vw) (m g f : Int) : Vw := ⟨m, g, f, v.l, v.t, v.s⟩
def Vw.sent (v : Vw) (g f : Int) (o : Int × Int × Int) : Vw := ⟨v.m, g, f, o.1, o.2.1, o.2.2⟩
theorem Vw.chk_zero {v : Vw} : v.chk = 0 ↔ (v.fresh = true ∨ curE v.m v.g v.f = 0) ∧ outE v.l v.t v.s = 0 := by
  unfold Vw.chk
  by_cases h : v.fresh = true ∨ curE v.m v.g v.f = 0
  · rw [if_pos h]; exact ⟨fun e => ⟨h, e⟩, fun e => e.2⟩
  · rw [if_neg h]; exact ⟨fun e => absurd (.inr e) h, fun e => absurd e.1 h⟩
abbrev Tr.A (T : Tr) : List (List Fr) := allG T.L T.O
/-- all that may be had up to a time -/
def sendF (T : Tr) (n : Int) : Nat → Vw → List Pk → Vw × List Pk × Int
  | 0, v, a => (v, a, 0)
  | k + 1, v, a => match nxt v.m T.A (v.g - T.first) v.f n with
    | none => (v, a, 0)
    | some p => if sdE v.l v.t v.s (frAt (grAt T.A p.1) p.2.1) (p.2.2 || v.f == 0) = 0 then
        sendF T n k (v.sent (T.first + p.1) (p.2.1 + 1) (sdO v.l v.t v.s (frAt (grAt T.A p.1) p.2.1) (p.2.2 || v.f == 0))) (a ++ sdP v.l v.t v.s (frAt (grAt T.A p.1) p.2.1) (p.2.2 || v.f == 0))
      else (Vw.zero, [], sdE v.l v.t v.s (frAt (grAt T.A p.1) p.2.1) (p.2.2 || v.f == 0))
/-- enough rounds are left -/
def Fuel (A : List (List Fr)) (d f : Int) (i : Nat) : Prop := 40 ≤ i ∨ ∃ k j : Nat, d = k ∧ f = j ∧ k < A.length ∧ j ≤ (grAt A k).length ∧ (restF A k j).length < i
theorem fuel_step {T : Tr} {v : Vw} {n : Int} {i : Nat} {p : Nat × Nat × Bool} (hs : stchk T.first T.L T.O = 0) (hF : Fuel T.A (v.g - T.first) v.f i) (hn : nxt v.m T.A (v.g - T.first) v.f n = some p) :
    ∃ i', i = i' + 1 ∧ Fuel T.A (T.first + p.1 - T.first) ((p.2.1 : Int) + 1) i' ∧ p.1 < T.A.length ∧ p.2.1 < (grAt T.A p.1).length ∧ (v.f = 0 → p.2.1 = 0) := by
  obtain ⟨s1, s2, s3, s4, _, s6⟩ := stchk_zero.1 hs
  have hA6 : T.A.length ≤ 6 := allG_len T.L T.O s3
  have hAR : ∀ k, k < T.A.length → 0 < (grAt T.A k).length ∧ (grAt T.A k).length ≤ 6 := fun k hk => by
    have := gchk_first (allG_right hs _ (grAt_mem hk) : gchk (grAt T.A k) = 0)
    exact ⟨this.1, this.2.1⟩
  obtain ⟨k, j, t⟩ := p
  simp only
  have hrest : ∀ a b, a < T.A.length → b < (grAt T.A a).length → (restF T.A a (b + 1)).length ≤ 35 := fun a b ha hb => by
    have h1 := flatten_len (A := T.A.drop (a + 1)) (fun g hg => by
      obtain ⟨q, hq, e⟩ := List.mem_iff_getElem.1 (List.mem_of_mem_drop hg)
      have := (hAR q hq).2
      rw [show grAt T.A q = g by simp [grAt, List.getElem?_eq_getElem hq, e]] at this
      exact this)
    have h2 := hAR a ha
    unfold restF
    rw [List.length_append, List.length_drop]
    rw [List.length_drop] at h1
    omega
  have hd : T.first + (k : Int) - T.first = k := by omega
  rw [hd]
  have fin : ∀ i, 0 < i → k < T.A.length → j < (grAt T.A k).length → (40 ≤ i ∨ (restF T.A k (j + 1)).length + 1 < i) → ∃ i', i = i' + 1 ∧ Fuel T.A k ((j : Int) + 1) i' := fun i h0 hk hj h => by
    obtain ⟨i', rfl⟩ : ∃ i', i = i' + 1 := ⟨i - 1, by omega⟩
    refine ⟨i', rfl, .inr ⟨k, j + 1, rfl, by simp, hk, by omega, ?_⟩⟩
    have := hrest k j hk hj
    omega
  -- where it is found
  unfold nxt at hn
  have tr : ∀ a b c, tryAt v.m n T.A a b c = some (k, j, t) → a = k ∧ b = j := fun a b c h => by
    unfold tryAt at h
    split at h
    · cases h
    · injection h with h
      injection h with h1 h2
      injection h2 with h2 h3
      exact ⟨h1, h2⟩
  by_cases h1 : v.m = 2 ∨ T.A.length = 0
  · rw [if_pos h1] at hn; cases hn
  rw [if_neg h1] at hn
  have hq0 : 0 < T.A.length := by omega
  by_cases h2 : v.g - T.first < 0 ∨ (T.A.length : Int) ≤ v.g - T.first ∨ ((grAt T.A (v.g - T.first).toNat).length : Int) < v.f
  · rw [if_pos h2] at hn
    obtain ⟨e1, e2⟩ := tr _ _ _ hn
    have hk : k < T.A.length := by
      rw [← e1]; split <;> omega
    subst e2
    have hj := (hAR k hk).1
    have h40 : 40 ≤ i := by
      rcases hF with h | ⟨a, b, ea, eb, ha, hb, _⟩
      · exact h
      · exfalso
        have : (v.g - T.first).toNat = a := by omega
        rw [this] at h2
        omega
    obtain ⟨i', a1, a2⟩ := fin i (by omega) hk hj (.inl h40)
    exact ⟨i', a1, a2, hk, hj, fun _ => rfl⟩
  · rw [if_neg h2] at hn
    obtain ⟨a, ha⟩ : ∃ a : Nat, v.g - T.first = a := ⟨(v.g - T.first).toNat, by omega⟩
    have hat : (v.g - T.first).toNat = a := by omega
    rw [hat] at hn h2
    have hal : a < T.A.length := by omega
    by_cases h3 : v.f = (grAt T.A a).length
    · rw [if_pos h3] at hn
      by_cases h4 : a + 1 = T.A.length
      · rw [if_pos h4] at hn; cases hn
      · rw [if_neg h4] at hn
        obtain ⟨e1, e2⟩ := tr _ _ _ hn
        subst e1 e2
        have hj := (hAR (a + 1) (by omega)).1
        have hl : 40 ≤ i ∨ (restF T.A (a + 1) (0 + 1)).length + 1 < i := by
          rcases hF with h | ⟨a', b, ea, eb, ha', hb, hr⟩
          · exact .inl h
          · right
            have : a' = a := by omega
            subst this
            have hbl : b = (grAt T.A a').length := by omega
            rw [hbl, restF_behind (by omega) hj, List.length_cons] at hr
            exact hr
        obtain ⟨i', a1, a2⟩ := fin i (by omega) (by omega) hj hl
        exact ⟨i', a1, a2, by omega, hj, fun _ => rfl⟩
    · rw [if_neg h3] at hn
      obtain ⟨e1, e2⟩ := tr _ _ _ hn
      subst e1
      by_cases hneg : v.f < 0
      · have hz : v.f.toNat = 0 := by omega
        rw [hz] at e2
        subst e2
        have hj := (hAR a hal).1
        have h40 : 40 ≤ i := by
          rcases hF with h | ⟨a', b, ea, eb, _⟩
          · exact h
          · omega
        obtain ⟨i', a1, a2⟩ := fin i (by omega) hal hj (.inl h40)
        exact ⟨i', a1, a2, hal, hj, fun _ => rfl⟩
      · have hfj : v.f = j := by omega
        have hj : j < (grAt T.A a).length := by omega
        have hl : 40 ≤ i ∨ (restF T.A a (j + 1)).length + 1 < i := by
          rcases hF with h | ⟨a', b, ea, eb, ha', hb, hr⟩
          · exact .inl h
          · right
            have e1 : a' = a := by omega
            have e2 : b = j := by omega
            subst e1 e2
            rw [restF_in hj, List.length_cons] at hr
            exact hr
        obtain ⟨i', a1, a2⟩ := fin i (by omega) hal hj hl
        exact ⟨i', a1, a2, hal, hj, fun h => by omega⟩

/-- what is wrong of an act -/
def actE (kind n : Int) (x : ByteArray) : Int := if kind < 1 ∨ 5 < kind then 6 else if (¬ kind = 1 ∧ ¬ x = ByteArray.empty) ∨ (kind < 4 ∧ ¬ n = 0) then 1 else 0
def badDo (e : Int) : Tr × Vw × List Pk × Int := (Tr.zero, Vw.zero, [], e)
def doR (T : Tr) (v : Vw) (kind n : Int) (x : ByteArray) : Tr × Vw × List Pk × Int :=
  if actE kind n x = 0 then
    if kind = 1 then (if (feedR T x.data.toList).2.2 = 0 then ((feedR T x.data.toList).1, v, [], 0) else badDo (feedR T x.data.toList).2.2)
    else if kind = 2 then (if T.A.length = 0 then badDo 5 else (T, v.cur 1 (T.first + (T.A.length - 1 : Nat)) 0, [], 0))
    else if kind = 3 then (if v.fresh = true then badDo 4 else (T, v.cur 2 v.g v.f, [], 0))
    else if kind = 4 then (if n < 0 ∨ 1000000 < n then badDo 3 else if T.A.length = 0 then badDo 5 else (T, v.cur 3 (seekN T.first T.L T.O n) 0, [], 0))
    else if v.fresh = true then badDo 4 else if n < 0 ∨ 1000000 < n then badDo 3
    else if (sendF T n 40 v []).2.2 = 0 then (T, (sendF T n 40 v []).1, (sendF T n 40 v []).2.1, 0) else badDo (sendF T n 40 v []).2.2
  else badDo (actE kind n x)
def doA (T : Tr) (v : Vw) (kind n : Int) (x : ByteArray) : Tr × Vw × List Pk × Int := if T.chk = 0 then (if v.chk = 0 then doR T v kind n x else badDo v.chk) else badDo T.chk

/-- what stands of a stream: numbers go on by one, times never go back, pictures are whole -/
def openAt (l : List Pk) (i : Nat) : Bool := decide (0 < i) && !(l[i - 1]?.getD Pk.zero).e
def pkOk (l : List Pk) (i : Nat) : Prop := (l[i]?.getD Pk.zero).seq = ((i : Int) + 1) % 65536 ∧ (0 < i → (l[i - 1]?.getD Pk.zero).time ≤ (l[i]?.getD Pk.zero).time) ∧ (l[i]?.getD Pk.zero).f = !openAt l i ∧ (openAt l i = true → (l[i]?.getD Pk.zero).time = (l[i - 1]?.getD Pk.zero).time)
def Strm (l : List Pk) (t : Int) : Prop := (∀ i, i < l.length → pkOk l i ∧ (l[i]?.getD Pk.zero).time ≤ t) ∧ openAt l l.length = false ∧ (0 < l.length → (l[0]?.getD Pk.zero).k = true)
theorem openAt_left {l m : List Pk} {i : Nat} (h : i ≤ l.length) : openAt (l ++ m) i = openAt l i := by
  unfold openAt
  by_cases h0 : 0 < i
  · rw [List.getElem?_append_left (by omega)]
  · have : i = 0 := by omega
    subst this; rfl
theorem Strm.more {l : List Pk} {t T last : Int} {key : Bool} {ps : List ByteArray} (h : Strm l t) (hl : last = l.length) (ht : t ≤ T) (h0 : 0 < ps.length) (hk : l.length = 0 → key = true) : Strm (l ++ pksOf last T key ps) T := by
  obtain ⟨h1, h2, h3⟩ := h
  have hpl : (pksOf last T key ps).length = ps.length := by unfold pksOf; rw [pksK_len]
  have at1 : ∀ i, i < l.length → (l ++ pksOf last T key ps)[i]?.getD Pk.zero = l[i]?.getD Pk.zero := fun i hi => by rw [List.getElem?_append_left hi]
  have at2 : ∀ i, i < ps.length → (l ++ pksOf last T key ps)[l.length + i]?.getD Pk.zero = pkAt last T key ps i := fun i hi => by
    rw [List.getElem?_append_right (by omega), Nat.add_sub_cancel_left]; exact pksOf_at hi
  refine ⟨fun i hi => ?_, ?_, fun _ => ?_⟩
  · rw [List.length_append, hpl] at hi
    by_cases hlt : i < l.length
    · obtain ⟨⟨a1, a2, a3, a4⟩, a5⟩ := h1 i hlt
      unfold pkOk
      rw [at1 i hlt, openAt_left (by omega)]
      refine ⟨⟨a1, fun h0 => ?_, a3, fun ho => ?_⟩, by omega⟩
      · rw [at1 (i - 1) (by omega)]; exact a2 h0
      · rw [at1 (i - 1) (by omega)]; exact a4 ho
    · obtain ⟨j, rfl⟩ : ∃ j, i = l.length + j := ⟨i - l.length, by omega⟩
      unfold pkOk
      rw [at2 j (by omega)]
      by_cases hj0 : j = 0
      · subst hj0
        rw [Nat.add_zero, openAt_left (Nat.le_refl _), h2]
        refine ⟨⟨?_, fun hp => ?_, rfl, fun ho => (by cases ho)⟩, Int.le_refl _⟩
        · show (last + 1 + ((0 : Nat) : Int)) % 65536 = _
          rw [hl]; simp
        · rw [at1 _ (by omega)]
          have := (h1 (l.length - 1) (by omega)).2
          show _ ≤ T
          omega
      · have e1 : (l ++ pksOf last T key ps)[l.length + j - 1]?.getD Pk.zero = pkAt last T key ps (j - 1) := by
          rw [show l.length + j - 1 = l.length + (j - 1) by omega]; exact at2 (j - 1) (by omega)
        have ho : openAt (l ++ pksOf last T key ps) (l.length + j) = true := by
          unfold openAt
          rw [e1]
          have : (pkAt last T key ps (j - 1)).e = false := by simp [pkAt]; omega
          rw [this]; simp; omega
        rw [e1, ho]
        refine ⟨⟨?_, fun _ => Int.le_refl _, ?_, fun _ => rfl⟩, Int.le_refl _⟩
        · show (last + 1 + (j : Int)) % 65536 = _
          rw [hl]; congr 1; simp; omega
        · show (j == 0) = !true
          simp [hj0]
  · rw [List.length_append, hpl]
    unfold openAt
    rw [show l.length + ps.length - 1 = l.length + (ps.length - 1) by omega, at2 _ (by omega)]
    simp [pkAt]
  · by_cases hz : l.length = 0
    · have := at2 0 h0
      rw [hz, Nat.zero_add] at this
      rw [this]
      simp [pkAt, hk hz]
    · rw [at1 0 (by omega)]; exact h3 (by omega)

/-- what stands of a viewer that was sent these packets -/
def Seen (v : Vw) (l : List Pk) : Prop := v.l = l.length ∧ Strm l v.t ∧ (l.length = 0 → v.f = 0)
theorem curE_step {T : Tr} {v : Vw} {k j : Nat} (hs : stchk T.first T.L T.O = 0) (hc : curE v.m v.g v.f = 0) (hk : k < T.A.length) (hj : j < (grAt T.A k).length) : curE v.m (T.first + k) ((j : Int) + 1) = 0 := by
  obtain ⟨s1, s2, s3, _⟩ := stchk_zero.1 hs
  have hA6 : T.A.length ≤ 6 := allG_len T.L T.O s3
  have := (gchk_first (allG_right hs _ (grAt_mem hk) : gchk (grAt T.A k) = 0)).2.1
  obtain ⟨c1, c2, _⟩ := curE_zero.1 hc
  exact curE_zero.2 ⟨c1, c2, by omega, by omega, by omega, by omega⟩
theorem sdO_right {l t s : Int} {f : Fr} {turn : Bool} (h : sdE l t s f turn = 0) : outE (sdO l t s f turn).1 (sdO l t s f turn).2.1 (sdO l t s f turn).2.2 = 0 ∧ t ≤ (sdO l t s f turn).2.1 ∧ (sdO l t s f turn).1 = l + f.parts.length ∧ sdP l t s f turn = pksOf l (sdO l t s f turn).2.1 f.key f.parts ∧ 0 < f.parts.length := by
  obtain ⟨e1, e2, a1, a2, a3, a4, a5, a6, a7, a8, a9, _⟩ := sd_zero h
  obtain ⟨h1, _, _⟩ := sdE_zero.1 h
  obtain ⟨b1, b2, b3, b4, b5, b6⟩ := outE_zero.1 h1
  rw [e1]
  obtain ⟨S, hS⟩ : ∃ x, x = sdS l t s f.time turn := ⟨_, rfl⟩
  rw [← hS] at a3 a4 e2 ⊢
  have hSS : S = t + 10 - f.time ∨ S = s := by
    rw [hS]; unfold sdS; split
    · exact .inl rfl
    · exact .inr rfl
  refine ⟨outE_zero.2 ⟨?_, ?_, ?_, ?_, ?_, ?_⟩, a3, rfl, e2, a6⟩
  · show 0 ≤ l + (f.parts.length : Int); omega
  · exact a5
  · show 0 ≤ f.time + S; omega
  · exact a4
  · show -1000000 ≤ S; omega
  · show S ≤ 1000000; omega
theorem send_right {T : Tr} (n : Int) (hs : stchk T.first T.L T.O = 0) : ∀ (i : Nat) (v : Vw) (a : List Pk), curE v.m v.g v.f = 0 → outE v.l v.t v.s = 0 → (sendF T n i v a).2.2 = 0 → Fuel T.A (v.g - T.first) v.f i →
    curE (sendF T n i v a).1.m (sendF T n i v a).1.g (sendF T n i v a).1.f = 0 ∧ outE (sendF T n i v a).1.l (sendF T n i v a).1.t (sendF T n i v a).1.s = 0 ∧ ∃ r, (sendF T n i v a).2.1 = a ++ r ∧ (∀ l, Seen v l → Seen (sendF T n i v a).1 (l ++ r)) := by
  intro i
  induction i with
  | zero =>
    intro v a hc ho _ _
    exact ⟨hc, ho, [], by simp [sendF], fun l hl => by simpa [sendF] using hl⟩
  | succ i ih =>
    intro v a hc ho hE hF
    simp only [sendF] at hE ⊢
    cases hn : nxt v.m T.A (v.g - T.first) v.f n with
    | none => exact ⟨hc, ho, [], by simp, fun l hl => by simpa using hl⟩
    | some p =>
      rw [hn] at hE
      simp only at hE ⊢
      obtain ⟨i', e, hF', hk, hj, hj0⟩ := fuel_step hs hF hn
      have e' : i' = i := by omega
      subst e'
      obtain ⟨x, hx⟩ : ∃ x, x = frAt (grAt T.A p.1) p.2.1 := ⟨_, rfl⟩
      obtain ⟨tn, htn⟩ : ∃ x, x = (p.2.2 || v.f == 0) := ⟨_, rfl⟩
      rw [← hx, ← htn] at hE ⊢
      by_cases h1 : sdE v.l v.t v.s x tn = 0
      · rw [if_pos h1] at hE ⊢
        obtain ⟨o1, o2, o3, o4, o5⟩ := sdO_right h1
        obtain ⟨w, hw⟩ : ∃ w, w = v.sent (T.first + p.1) (p.2.1 + 1) (sdO v.l v.t v.s x tn) := ⟨_, rfl⟩
        rw [← hw] at hE ⊢
        have wc : curE w.m w.g w.f = 0 := by
          have := curE_step (v := v) hs hc hk hj
          rw [hw]; exact this
        have wo : outE w.l w.t w.s = 0 := by rw [hw]; exact o1
        have wF : Fuel T.A (w.g - T.first) w.f i' := by rw [hw]; exact hF'
        obtain ⟨q1, q2, r, q3, q4⟩ := ih w (a ++ sdP v.l v.t v.s x tn) wc wo hE wF
        refine ⟨q1, q2, sdP v.l v.t v.s x tn ++ r, by rw [q3, List.append_assoc], fun l hl => ?_⟩
        rw [← List.append_assoc]
        refine q4 _ ?_
        obtain ⟨l1, l2, l3⟩ := hl
        have hkey : l.length = 0 → x.key = true := fun h0 => by
          have := hj0 (l3 h0)
          rw [hx, this]
          exact (gchk_first (allG_right hs _ (grAt_mem hk) : gchk (grAt T.A p.1) = 0)).2.2
        have hst := l2.more (last := v.l) (T := (sdO v.l v.t v.s x tn).2.1) (key := x.key) (ps := x.parts) l1 o2 o5 hkey
        rw [← o4] at hst
        have hlen : (sdP v.l v.t v.s x tn).length = x.parts.length := by rw [o4]; unfold pksOf; rw [pksK_len]
        refine ⟨?_, ?_, fun h0 => ?_⟩
        · rw [hw]
          show (sdO v.l v.t v.s x tn).1 = _
          rw [o3, List.length_append, hlen, l1]; simp
        · rw [hw]; exact hst
        · rw [List.length_append, hlen] at h0; omega
      · rw [if_neg h1] at hE
        exact absurd hE h1

/-- an act leaves what is right -/
theorem do_right {T : Tr} {v : Vw} {kind n : Int} {x : ByteArray} (h : (doA T v kind n x).2.2.2 = 0) :
    T.chk = 0 ∧ v.chk = 0 ∧ actE kind n x = 0 ∧ (doA T v kind n x).1.chk = 0 ∧ (doA T v kind n x).2.1.chk = 0 ∧ ∀ l, Seen v l → Seen (doA T v kind n x).2.1 (l ++ (doA T v kind n x).2.2.1) := by
  have hT : T.chk = 0 := by
    by_cases h1 : T.chk = 0
    · exact h1
    · unfold doA at h; rw [if_neg h1] at h; exact h
  have hv : v.chk = 0 := by
    by_cases h1 : v.chk = 0
    · exact h1
    · unfold doA at h; rw [if_pos hT, if_neg h1] at h; exact h
  have e0 : doA T v kind n x = doR T v kind n x := by unfold doA; rw [if_pos hT, if_pos hv]
  rw [e0] at h ⊢
  have ha : actE kind n x = 0 := by
    by_cases h1 : actE kind n x = 0
    · exact h1
    · unfold doR at h; rw [if_neg h1] at h; exact h
  refine ⟨hT, hv, ha, ?_⟩
  obtain ⟨v1, v2⟩ := Vw.chk_zero.1 hv
  obtain ⟨_, _, _, hs, _⟩ := Tr.chk_zero.1 hT
  unfold doR at h ⊢
  rw [if_pos ha] at h ⊢
  have same : ∀ l, Seen v l → Seen v (l ++ []) := fun l hl => by rw [List.append_nil]; exact hl
  obtain ⟨s1, s2, s3, _⟩ := stchk_zero.1 hs
  have hA6 : T.A.length ≤ 6 := allG_len T.L T.O s3
  by_cases k1 : kind = 1
  · rw [if_pos k1] at h ⊢
    by_cases f0 : (feedR T x.data.toList).2.2 = 0
    · rw [if_pos f0]
      have e1 : feedA T x.data.toList = feedR T x.data.toList := by unfold feedA; rw [if_pos hT]
      have := (feed_right (t := T) (s := x.data.toList) (by rw [e1]; exact f0)).1
      rw [e1] at this
      exact ⟨this, hv, same⟩
    · rw [if_neg f0] at h; exact absurd h f0
  rw [if_neg k1] at h ⊢
  by_cases k2 : kind = 2
  · rw [if_pos k2] at h ⊢
    by_cases hz : T.A.length = 0
    · rw [if_pos hz] at h; cases h
    · rw [if_neg hz]
      refine ⟨hT, Vw.chk_zero.2 ⟨.inr (curE_zero.2 ⟨?_, ?_, ?_, ?_, ?_, ?_⟩), v2⟩, fun l hl => ?_⟩
      all_goals try (show (_ : Int) ≤ _; simp only [Vw.cur]; omega)
      exact ⟨by rw [List.append_nil]; exact hl.1, by rw [List.append_nil]; exact hl.2.1, fun _ => rfl⟩
  rw [if_neg k2] at h ⊢
  by_cases k3 : kind = 3
  · rw [if_pos k3] at h ⊢
    by_cases hf : v.fresh = true
    · rw [if_pos hf] at h; cases h
    · rw [if_neg hf]
      obtain ⟨_, _, c3, c4, c5, c6⟩ := curE_zero.1 (v1.resolve_left hf)
      exact ⟨hT, Vw.chk_zero.2 ⟨.inr (curE_zero.2 ⟨by simp [Vw.cur], by simp [Vw.cur], c3, c4, c5, c6⟩), v2⟩, fun l hl => ⟨by rw [List.append_nil]; exact hl.1, by rw [List.append_nil]; exact hl.2.1, by rw [List.append_nil]; exact hl.2.2⟩⟩
  rw [if_neg k3] at h ⊢
  by_cases k4 : kind = 4
  · rw [if_pos k4] at h ⊢
    by_cases hn : n < 0 ∨ 1000000 < n
    · rw [if_pos hn] at h; cases h
    · rw [if_neg hn] at h ⊢
      by_cases hz : T.A.length = 0
      · rw [if_pos hz] at h; cases h
      · rw [if_neg hz]
        have he : seekE T.first T.L T.O n = 0 := by unfold seekE; rw [if_pos hs, if_neg (by omega), if_neg (by omega), if_neg hz]
        obtain ⟨_, _, _, _, en⟩ := seekE_zero he
        have hle := seekI_le (allG T.L T.O) n ((allG T.L T.O).length - 1)
        have hA6' : (allG T.L T.O).length ≤ 6 := hA6
        refine ⟨hT, Vw.chk_zero.2 ⟨.inr (curE_zero.2 ⟨by simp [Vw.cur], by simp [Vw.cur], ?_, ?_, by simp [Vw.cur], by simp [Vw.cur]⟩), v2⟩, fun l hl => ⟨by rw [List.append_nil]; exact hl.1, by rw [List.append_nil]; exact hl.2.1, fun _ => rfl⟩⟩
        · show 0 ≤ seekN T.first T.L T.O n
          rw [en]; omega
        · show seekN T.first T.L T.O n ≤ 100006
          rw [en]; omega
  rw [if_neg k4] at h ⊢
  by_cases hf : v.fresh = true
  · rw [if_pos hf] at h; cases h
  rw [if_neg hf] at h ⊢
  by_cases hn : n < 0 ∨ 1000000 < n
  · rw [if_pos hn] at h; cases h
  rw [if_neg hn] at h ⊢
  by_cases hE : (sendF T n 40 v []).2.2 = 0
  · rw [if_pos hE]
    obtain ⟨q1, q2, r, q3, q4⟩ := send_right n hs 40 v [] (v1.resolve_left hf) v2 hE (.inl (Nat.le_refl _))
    refine ⟨hT, Vw.chk_zero.2 ⟨.inr q1, q2⟩, fun l hl => ?_⟩
    show Seen (sendF T n 40 v []).1 (l ++ (sendF T n 40 v []).2.1)
    rw [q3]
    exact q4 l hl
  · rw [if_neg hE] at h; exact absurd h hE
theorem do_bad {T : Tr} {v : Vw} {kind n : Int} {x : ByteArray} (h : ¬ (doA T v kind n x).2.2.2 = 0) : (doA T v kind n x).1 = Tr.zero ∧ (doA T v kind n x).2.1 = Vw.zero ∧ (doA T v kind n x).2.2.1 = [] := by
  unfold doA at h ⊢
  by_cases h1 : T.chk = 0
  · rw [if_pos h1] at h ⊢
    by_cases h2 : v.chk = 0
    · rw [if_pos h2] at h ⊢
      unfold doR at h ⊢
      repeat' split
      all_goals first | exact ⟨rfl, rfl, rfl⟩ | (exfalso; simp_all)
    · rw [if_neg h2]; exact ⟨rfl, rfl, rfl⟩
  · rw [if_neg h1]; exact ⟨rfl, rfl, rfl⟩

/-- acts in a row -/
structure Ac where
  kind : Int
  n : Int
  x : ByteArray
def stepD (s : Tr × Vw × List Pk × List Int) (a : Ac) : Tr × Vw × List Pk × List Int :=
  if (doA s.1 s.2.1 a.kind a.n a.x).2.2.2 = 0 then ((doA s.1 s.2.1 a.kind a.n a.x).1, (doA s.1 s.2.1 a.kind a.n a.x).2.1, s.2.2.1 ++ (doA s.1 s.2.1 a.kind a.n a.x).2.2.1, s.2.2.2 ++ [0])
  else (s.1, s.2.1, s.2.2.1, s.2.2.2 ++ [(doA s.1 s.2.1 a.kind a.n a.x).2.2.2])
def upD (l : List Ac) (k : Nat) : Tr × Vw × List Pk × List Int := (l.take k).foldl stepD (Tr.zero, Vw.zero, [], [])
def Ac.zero : Ac := ⟨0, 0, ByteArray.empty⟩
theorem upD_succ (l : List Ac) (k : Nat) (hk : k < l.length) : upD l (k + 1) = stepD (upD l k) (l[k]?.getD Ac.zero) := by
  unfold upD
  rw [take_one hk Ac.zero, List.foldl_append]; rfl
theorem zero_chk : Tr.zero.chk = 0 := by decide
theorem upD_right (l : List Ac) : ∀ k, k ≤ l.length → (upD l k).1.chk = 0 ∧ (upD l k).2.1.chk = 0 ∧ Seen (upD l k).2.1 (upD l k).2.2.1 ∧ (upD l k).2.2.2.length = k
  | 0, _ => ⟨zero_chk, (by show Vw.zero.chk = 0; decide), ⟨rfl, ⟨fun i hi => absurd hi (Nat.not_lt_zero _), rfl, fun h => absurd h (Nat.lt_irrefl _)⟩, fun _ => rfl⟩, rfl⟩
  | k + 1, hk => by
    obtain ⟨h1, h2, h3, h4⟩ := upD_right l k (by omega)
    rw [upD_succ l k (by omega)]
    unfold stepD
    split
    · rename_i h
      obtain ⟨_, _, _, a1, a2, a3⟩ := do_right h
      exact ⟨a1, a2, a3 _ h3, by simp [h4]⟩
    · exact ⟨h1, h2, h3, by simp [h4]⟩

end Go.Proofs.YtnpaejknoipicagGreat

namespace Go.Proofs.YtnpaejknoipicagGreat
open Go.RowKit

def SlsIn (S : Nat → Prop) (w : World) (v : Value) (l : List Sk) : Prop := Sls w v l ∧ l.length ≤ 9223372036854775807 ∧ ∀ g, v.ownBlock = some g → 0 < l.length → S g ∧ g < w.heap.size
theorem SlsIn.to {S S' : Nat → Prop} {w w' : World} {v : Value} {l : List Sk} (h : SlsIn S w v l) (hs : SameOn S w w') (hm : ∀ g, g < w.heap.size → S g → S' g) : SlsIn S' w' v l := by
  obtain ⟨⟨h1, h2⟩, h3, h4⟩ := h
  refine ⟨⟨h1, ?_⟩, h3, fun g hg h0 => ⟨hm g (h4 g hg h0).2 (h4 g hg h0).1, Nat.lt_of_lt_of_le (h4 g hg h0).2 hs.1⟩⟩
  rcases h2 with h2 | ⟨b, off, c, rfl, hlt, hc⟩
  · exact .inl h2
  · by_cases h0 : 0 < l.length
    · exact .inr ⟨b, off, c, rfl, Nat.lt_of_lt_of_le hlt hs.1, fun j u hj => (World.cell?_of_block (hs.2 b hlt (h4 b rfl h0).1)).trans (hc j u hj)⟩
    · refine .inl ⟨by omega, some ⟨b, off, none⟩, c, by congr 1; omega⟩
theorem SlsIn.below {S : Nat → Prop} {w w' : World} {v : Value} {l : List Sk} (h : SlsIn S w v l) (hb : Below w.heap.size w w') : SlsIn S w' v l := h.to (SameOn.of_below hb) fun _ _ h => h
theorem SlsIn.mono {S S' : Nat → Prop} {w : World} {v : Value} {l : List Sk} (h : SlsIn S w v l) (hm : ∀ g, g < w.heap.size → S g → S' g) : SlsIn S' w v l := h.to (SameOn.refl _ _) hm
theorem SlsIn.nil (S : Nat → Prop) (w : World) : SlsIn S w (.slice none 0 0) [] := ⟨Sls.nil w, Nat.zero_le _, fun g hg => by simp [Value.ownBlock] at hg⟩
theorem SlsIn.len {S : Nat → Prop} {w : World} {v : Value} {l : List Sk} (h : SlsIn S w v l) : ∃ a c, v = .slice a l.length c := h.1.len
theorem SlsIn.of {S : Nat → Prop} {w : World} {v : Value} {l : List Sk} (h : Sls w v l) (hl : l.length ≤ 9223372036854775807) (hS : ∀ g, v.ownBlock = some g → 0 < l.length → S g) : SlsIn S w v l := by
  refine ⟨h, hl, fun g hg h0 => ⟨hS g hg h0, ?_⟩⟩
  obtain ⟨_, h4 | ⟨b, off, c, rfl, hb, _⟩⟩ := h
  · omega
  · have : b = g := by simpa [Value.ownBlock] using hg
    subst this; exact hb

/-- what a track's rows show -/
def TrIn (S : Nat → Prop) (w : World) (hv bv gv ov : Value) (t : Tr) : Prop := SlsIn S w hv t.h ∧ SlsIn S w bv t.o ∧ GrsIn S w gv t.L ∧ FrsIn S w ov t.O
theorem TrIn.to {S S' : Nat → Prop} {w w' : World} {hv bv gv ov : Value} {t : Tr} (h : TrIn S w hv bv gv ov t) (hs : SameOn S w w') (hm : ∀ g, g < w.heap.size → S g → S' g) : TrIn S' w' hv bv gv ov t :=
  ⟨h.1.to hs hm, h.2.1.to hs hm, h.2.2.1.to hs hm, h.2.2.2.to hs hm⟩
theorem TrIn.below {S : Nat → Prop} {w w' : World} {hv bv gv ov : Value} {t : Tr} (h : TrIn S w hv bv gv ov t) (hb : Below w.heap.size w w') : TrIn S w' hv bv gv ov t := h.to (SameOn.of_below hb) fun _ _ h => h
theorem TrIn.mono {S S' : Nat → Prop} {w : World} {hv bv gv ov : Value} {t : Tr} (h : TrIn S w hv bv gv ov t) (hm : ∀ g, g < w.heap.size → S g → S' g) : TrIn S' w hv bv gv ov t := h.to (SameOn.refl _ _) hm
theorem TrIn.zero (S : Nat → Prop) (w : World) : TrIn S w (.slice none 0 0) (.slice none 0 0) (.slice none 0 0) (.slice none 0 0) Tr.zero := ⟨SlsIn.nil _ _, SlsIn.nil _ _, GrsIn.nil _ _, FrsIn.nil _ _⟩
theorem TrIn.stay {S : Nat → Prop} {w : World} {hv bv gv ov : Value} {t : Tr} (h : TrIn S w hv bv gv ov t) : Stay w (fun U => TrIn S U hv bv gv ov t) := fun _ hb => h.below hb
theorem TrIn.slices {S : Nat → Prop} {w : World} {hv bv gv ov : Value} {t : Tr} (h : TrIn S w hv bv gv ov t) : ∃ ha hc ba bc ga gc oa oc, hv = .slice ha t.h.length hc ∧ bv = .slice ba t.o.length bc ∧ gv = .slice ga t.L.length gc ∧ ov = .slice oa t.O.length oc := by
  obtain ⟨h1, h2, h3, h4⟩ := h
  obtain ⟨a1, c1, e1⟩ := h1.len
  obtain ⟨a2, c2, e2⟩ := h2.len
  obtain ⟨a3, c3, e3, _⟩ := h3.len
  obtain ⟨a4, c4, e4, _⟩ := h4.len
  exact ⟨a1, c1, a2, c2, a3, c3, a4, c4, e1, e2, e3, e4⟩

/-- a track's seven cells -/
abbrev Tr.cells (t : Tr) (hv bv gv ov : Value) : Array Value := #[.int .i64 t.last, .int .i64 t.next, hv, bv, .int .i64 t.first, gv, ov]
/-- the taker's box: a track, and how many groups were closed; its rows lie elsewhere, in blocks of S -/
def TkB (S : Nat → Prop) (M : Nat) (w : World) (t : Tr) (c : Int) : Prop := ∃ hv bv gv ov, Blk w M #[.int .i64 t.last, .int .i64 t.next, hv, bv, .int .i64 t.first, gv, ov, .int .i64 c] 155 ∧ TrIn (fun g => S g ∧ g ≠ M) w hv bv gv ov t
theorem TkB.below {S : Nat → Prop} {M : Nat} {w w' : World} {t : Tr} {c : Int} (h : TkB S M w t c) (hb : Below w.heap.size w w') : TkB S M w' t c := by
  obtain ⟨hv, bv, gv, ov, h1, h2⟩ := h
  exact ⟨hv, bv, gv, ov, h1.below hb h1.lt, h2.below hb⟩
theorem TkB.lt {S : Nat → Prop} {M : Nat} {w : World} {t : Tr} {c : Int} (h : TkB S M w t c) : M < w.heap.size := by
  obtain ⟨_, _, _, _, h1, _⟩ := h
  exact h1.lt
theorem Blk.eight {w : World} {b : Nat} {x0 x1 x2 x3 x4 x5 x6 x7 : Value} {t : TypeId} (h : Blk w b #[x0, x1, x2, x3, x4, x5, x6, x7] t) :
    w.cell? ⟨b, 0, none⟩ = some x0 ∧ w.cell? ⟨b, 1, none⟩ = some x1 ∧ w.cell? ⟨b, 2, none⟩ = some x2 ∧ w.cell? ⟨b, 3, none⟩ = some x3 ∧ w.cell? ⟨b, 4, none⟩ = some x4 ∧ w.cell? ⟨b, 5, none⟩ = some x5 ∧ w.cell? ⟨b, 6, none⟩ = some x6 ∧ w.cell? ⟨b, 7, none⟩ = some x7 :=
  ⟨h.cell rfl, h.cell rfl, h.cell rfl, h.cell rfl, h.cell rfl, h.cell rfl, h.cell rfl, h.cell rfl⟩
theorem Blk.sevenc {w : World} {b : Nat} {x0 x1 x2 x3 x4 x5 x6 : Value} {t : TypeId} (h : Blk w b #[x0, x1, x2, x3, x4, x5, x6] t) :
    w.cell? ⟨b, 0, none⟩ = some x0 ∧ w.cell? ⟨b, 1, none⟩ = some x1 ∧ w.cell? ⟨b, 2, none⟩ = some x2 ∧ w.cell? ⟨b, 3, none⟩ = some x3 ∧ w.cell? ⟨b, 4, none⟩ = some x4 ∧ w.cell? ⟨b, 5, none⟩ = some x5 ∧ w.cell? ⟨b, 6, none⟩ = some x6 :=
  ⟨h.cell rfl, h.cell rfl, h.cell rfl, h.cell rfl, h.cell rfl, h.cell rfl, h.cell rfl⟩

end Go.Proofs.YtnpaejknoipicagGreat

namespace Go.Proofs.YtnpaejknoipicagGreat
open Go.RowKit

theorem eql_cur (a b c a' b' c' : Int) (w : World) : (binOp .eql 36 (.agg #[.int .i64 a, .int .i64 b, .int .i64 c]) (.agg #[.int .i64 a', .int .i64 b', .int .i64 c'])).run Tryz.prog w = .ok (.bool ((a == a') && ((b == b') && (c == c')))) w := by
  rw [run_eql_struct, run_equalIn_agg w 9999 36 _ _ (by kernel_rfl) (by kernel_rfl)]
  rw [show (Tryz.prog.fieldsOf 36) = _ by unfold Program.fieldsOf; rw [Tryz.underlying36]]
  cases h0 : (a == a')
  · simp [go_sem, h0]
  cases h1 : (b == b')
  · simp [go_sem, h0, h1]
  cases h2 : (c == c')
  · simp [go_sem, h0, h1, h2]
  · simp [go_sem, h0, h1, h2]

/-- what a row's frame shows -/
theorem FrsIn.at {S : Nat → Prop} {w : World} {ao : Option Addr} {n c k : Nat} {l : List Fr} (h : FrsIn S w (.slice ao n c) l) (hk : k < l.length) : ∃ b off pa pc, ao = some ⟨b, off, none⟩ ∧ b < w.heap.size ∧ S b ∧ w.cell? ⟨b, off + k * 3, none⟩ = some (.int .i64 (frAt l k).time) ∧ w.cell? ⟨b, off + k * 3 + 1, none⟩ = some (.bool (frAt l k).key) ∧ w.cell? ⟨b, off + k * 3 + 2, none⟩ = some (.slice pa (frAt l k).parts.length pc) ∧ StrsIn S w (.slice pa (frAt l k).parts.length pc) (frAt l k).parts := by
  obtain ⟨ao', c', e, _, _, hc⟩ := h
  injection e with e1 e2 e3
  subst e1 e2 e3
  obtain ⟨b, off, e1, hb, hS, pv, c0, c1, c2, hp⟩ := hc k hk
  obtain ⟨pa, pc, ep⟩ := hp.1.len
  have hp' : StrsIn S w pv (frAt l k).parts := hp
  subst ep
  exact ⟨b, off, pa, pc, e1, hb, hS, c0, c1, c2, hp'⟩
/-- what a row's group shows -/
theorem GrsIn.at {S : Nat → Prop} {w : World} {ao : Option Addr} {n c k : Nat} {L : List (List Fr)} (h : GrsIn S w (.slice ao n c) L) (hk : k < L.length) : ∃ b off sa sc, ao = some ⟨b, off, none⟩ ∧ b < w.heap.size ∧ S b ∧ w.cell? ⟨b, off + k, none⟩ = some (.slice sa (grAt L k).length sc) ∧ FrsIn S w (.slice sa (grAt L k).length sc) (grAt L k) := by
  obtain ⟨ao', c', e, _, _, hc⟩ := h
  injection e with e1 e2 e3
  subst e1 e2 e3
  obtain ⟨b, off, e1, hb, hS, sv, c0, hs⟩ := hc k hk
  have hs' : FrsIn S w sv (grAt L k) := hs
  obtain ⟨sa, sc, es, _, _⟩ := hs'.len
  subst es
  exact ⟨b, off, sa, sc, e1, hb, hS, c0, hs'⟩
theorem StrsIn.slice {S : Nat → Prop} {w : World} {v : Value} {l : List ByteArray} (h : StrsIn S w v l) : ∃ a c, v = .slice a l.length c := h.1.len
end Go.Proofs.YtnpaejknoipicagGreat

namespace Go.Proofs.YtnpaejknoipicagGreat
open Go.RowKit

def PksIn (S : Nat → Prop) (w : World) (v : Value) (l : List Pk) : Prop := Pks w v l ∧ ∀ g, v.ownBlock = some g → 0 < l.length → S g ∧ g < w.heap.size
theorem PksIn.to {S S' : Nat → Prop} {w w' : World} {v : Value} {l : List Pk} (h : PksIn S w v l) (hs : SameOn S w w') (hm : ∀ g, g < w.heap.size → S g → S' g) : PksIn S' w' v l := by
  obtain ⟨⟨h1, h2⟩, h4⟩ := h
  refine ⟨⟨h1, ?_⟩, fun g hg h0 => ⟨hm g (h4 g hg h0).2 (h4 g hg h0).1, Nat.lt_of_lt_of_le (h4 g hg h0).2 hs.1⟩⟩
  rcases h2 with h2 | ⟨b, off, c, rfl, hlt, hc⟩
  · exact .inl h2
  · by_cases h0 : 0 < l.length
    · exact .inr ⟨b, off, c, rfl, Nat.lt_of_lt_of_le hlt hs.1, fun j u hj => (World.cell?_of_block (hs.2 b hlt (h4 b rfl h0).1)).trans (hc j u hj)⟩
    · refine .inl ⟨by omega, some ⟨b, off, none⟩, c, by congr 1; omega⟩
theorem PksIn.below {S : Nat → Prop} {w w' : World} {v : Value} {l : List Pk} (h : PksIn S w v l) (hb : Below w.heap.size w w') : PksIn S w' v l := h.to (SameOn.of_below hb) fun _ _ h => h
theorem PksIn.mono {S S' : Nat → Prop} {w : World} {v : Value} {l : List Pk} (h : PksIn S w v l) (hm : ∀ g, g < w.heap.size → S g → S' g) : PksIn S' w v l := h.to (SameOn.refl _ _) hm
theorem PksIn.nil (S : Nat → Prop) (w : World) : PksIn S w (.slice none 0 0) [] := ⟨⟨rfl, .inl ⟨rfl, none, 0, rfl⟩⟩, fun g hg => by simp [Value.ownBlock] at hg⟩
theorem PksIn.len {S : Nat → Prop} {w : World} {v : Value} {l : List Pk} (h : PksIn S w v l) : ∃ a c, v = .slice a l.length c := Sl.len h.1
theorem pk_lt {w : World} {base n : Nat} {v : Value} {l : List Pk} (h : w.ownsRow base 63 6 v n (pkCells l)) : ∀ g, v.ownBlock = some g → base ≤ g ∧ g < w.heap.size := fun g hg => h.lt g hg
theorem PksIn.of_owns {w : World} {base : Nat} {v : Value} {l : List Pk} (h : w.ownsRow base 63 6 v l.length (pkCells l)) : PksIn (fun g => base ≤ g) w v l := ⟨Sl.of_owns h, fun g hg _ => pk_lt h g hg⟩

theorem pk_one (l : List Pk) : ∀ u ∈ pkCells l, u.oneCell' = true := fun u hu => by
  unfold pkCells at hu
  obtain ⟨p, _, hp⟩ := List.mem_flatMap.1 hu
  exact p.one2 u hp
/-- a row of packets behind a row of the call's own -/
theorem pk_app {base : Nat} {w : World} {v x : Value} {n : Nat} {l m : List Pk} (h : w.ownsRow base 63 6 v n (pkCells l)) (hx : Pks w x m) (hl : n + m.length ≤ 2000000000) (hb : base ≤ w.heap.size) :
    ∃ v' w', (Builtin.append_ #[42, 42] 42 #[v, x]).run Tryz.prog w = .ok v' w' ∧ w'.ownsRow base 63 6 v' (n + m.length) (pkCells (l ++ m)) ∧ w.grownBy w' v.ownBlock ∧ (v'.ownBlock = v.ownBlock ∨ ∀ g, v'.ownBlock = some g → w.heap.size ≤ g) := by
  obtain ⟨i0, hi, hz0, hz1, hz2⟩ := info_parts Tryz.infoPkt
  obtain ⟨v', w', r, o, g, d⟩ := run_append_any (P := Tryz.prog) w base 42 42 63 i0 _ 6 40 Tryz.underlying42 hi hz0 hz1 hz2 rfl (by decide) v n (pkCells l) h m.length (pkCells m) x hx (pk_one m) (by unfold maxLen; omega) (by omega) hb
  exact ⟨v', w', r, by rw [pkCells_append]; exact o, g, d⟩

theorem Blk.fourteen {w : World} {b : Nat} {x0 x1 x2 x3 x4 x5 x6 x7 x8 x9 x10 x11 x12 x13 : Value} {t : TypeId} (h : Blk w b #[x0, x1, x2, x3, x4, x5, x6, x7, x8, x9, x10, x11, x12, x13] t) :
    w.cell? ⟨b, 0, none⟩ = some x0 ∧ w.cell? ⟨b, 1, none⟩ = some x1 ∧ w.cell? ⟨b, 2, none⟩ = some x2 ∧ w.cell? ⟨b, 3, none⟩ = some x3 ∧ w.cell? ⟨b, 4, none⟩ = some x4 ∧ w.cell? ⟨b, 5, none⟩ = some x5 ∧ w.cell? ⟨b, 6, none⟩ = some x6 ∧ w.cell? ⟨b, 7, none⟩ = some x7 ∧ w.cell? ⟨b, 8, none⟩ = some x8 ∧ w.cell? ⟨b, 9, none⟩ = some x9 ∧ w.cell? ⟨b, 10, none⟩ = some x10 ∧ w.cell? ⟨b, 11, none⟩ = some x11 ∧ w.cell? ⟨b, 12, none⟩ = some x12 ∧ w.cell? ⟨b, 13, none⟩ = some x13 :=
  ⟨h.cell rfl, h.cell rfl, h.cell rfl, h.cell rfl, h.cell rfl, h.cell rfl, h.cell rfl, h.cell rfl, h.cell rfl, h.cell rfl, h.cell rfl, h.cell rfl, h.cell rfl, h.cell rfl⟩
/-- the doer's fourteen cells -/
abbrev dkC (v : Vw) (T : Tr) (hv bv gv ov sv : Value) : Array Value := #[.int .i64 v.m, .int .i64 v.g, .int .i64 v.f, .int .i64 v.l, .int .i64 v.t, .int .i64 v.s, .int .i64 T.last, .int .i64 T.next, hv, bv, .int .i64 T.first, gv, ov, sv]
/-- a viewer -/
abbrev Vw.val (v : Vw) : Value := .agg #[.int .i64 v.m, .int .i64 v.g, .int .i64 v.f, .int .i64 v.l, .int .i64 v.t, .int .i64 v.s]

set_option maxHeartbeats 2000000 in
theorem justSet_any (M : Nat) (m g f : Int) (x3 x4 x5 x6 x7 x8 x9 x10 x11 x12 x13 : Value) (w : World) (hM : Blk w M #[.int .i64 m, .int .i64 g, .int .i64 f, x3, x4, x5, x6, x7, x8, x9, x10, x11, x12, x13] 77) :
    Calls Tryz.prog 115 #[.pointer (some ⟨M, 0, none⟩)] w fun e w' => e = .returned (.bool (f == 0)) ∧ Below w.heap.size w w' := by
  have y2 : w.cell? ⟨M, 2, none⟩ = some (.int .i64 f) := hM.cell rfl
  have B := Below.refl w.heap.size w
  clear hM
  go_enter Tryz.func115, Tryz.ntmps115
  go_wp2
  go_ret
  exact ⟨rfl, B⟩

set_option maxHeartbeats 2000000 in
theorem isUnset_any (m g f : Int) (w : World) :
    Calls Tryz.prog 77 #[.agg #[.int .i64 m, .int .i64 g, .int .i64 f]] w fun e w' => e = .returned (.bool (m == 0 && (g == 0 && f == 0))) ∧ Below w.heap.size w w' := by
  have hq := fun W => eql_cur m g f 0 0 0 W
  have HB : Hid (Below w.heap.size w (w.alloc (.cells #[.int .i64 m, .int .i64 g, .int .i64 f] 36))) := (Below.refl _ _).alloc (Nat.le_refl _) _
  go_enter Tryz.func77, Tryz.ntmps77
  go_wp2
  go_ret
  exact ⟨rfl, HB.out⟩

end Go.Proofs.YtnpaejknoipicagGreat

namespace Go.Proofs.YtnpaejknoipicagGreat
open Go.RowKit

set_option maxHeartbeats 8000000 in
set_option maxRecDepth 100000 in
theorem tkKeep_any (S : Nat → Prop) (M : Nat) (t : Tr) (c : Int) (f : Fr) (pv : Value) (w : World) (hT : TkB S M w t c) (hp : StrsIn (fun _ => True) w pv f.parts) (hS : ∀ g, w.heap.size ≤ g → S g) (hc0 : 0 ≤ c) (hc1 : c ≤ 1000000) :
    Calls Tryz.prog 161 #[.pointer (some ⟨M, 0, none⟩), .agg #[.int .i64 f.time, .bool f.key, pv]] w fun e w' => e = .returned (.int .i64 (addsE t.first t.L t.O f)) ∧ TkB S M w' ⟨t.last, t.next, t.h, t.o, addsF t.first t.L t.O f, addsL t.first t.L t.O f, addsO t.first t.L t.O f⟩ (c + (if addsB t.first t.L t.O f then (1 : Nat) else 0)) ∧ Kept [M] w w' := by
  obtain ⟨hv, bv, gv, ov, hM, hr⟩ := hT
  obtain ⟨ha, hc, ba, bc, ga, gc, oa, oc, eh, eb, eg, eo⟩ := hr.slices
  obtain ⟨pa, pc, ep⟩ := hp.1.len
  obtain ⟨last, hlast⟩ : ∃ x, x = t.last := ⟨_, rfl⟩
  obtain ⟨next, hnext⟩ : ∃ x, x = t.next := ⟨_, rfl⟩
  obtain ⟨first, hfirst⟩ : ∃ x, x = t.first := ⟨_, rfl⟩
  obtain ⟨hn, hhn⟩ : ∃ x, x = t.h.length := ⟨_, rfl⟩
  obtain ⟨bn, hbn⟩ : ∃ x, x = t.o.length := ⟨_, rfl⟩
  obtain ⟨ln, hln⟩ : ∃ x, x = t.L.length := ⟨_, rfl⟩
  obtain ⟨lo, hlo⟩ : ∃ x, x = t.O.length := ⟨_, rfl⟩
  obtain ⟨pn, hpn⟩ : ∃ x, x = f.parts.length := ⟨_, rfl⟩
  obtain ⟨ft, hft⟩ : ∃ x, x = f.time := ⟨_, rfl⟩
  obtain ⟨fk, hfk⟩ : ∃ x, x = f.key := ⟨_, rfl⟩
  obtain ⟨E1, hE1⟩ : ∃ E, E = addsE t.first t.L t.O f := ⟨_, rfl⟩
  obtain ⟨F1, hF1⟩ : ∃ E, E = addsF t.first t.L t.O f := ⟨_, rfl⟩
  obtain ⟨L1, hL1⟩ : ∃ E, E = addsL t.first t.L t.O f := ⟨_, rfl⟩
  obtain ⟨O1, hO1⟩ : ∃ E, E = addsO t.first t.L t.O f := ⟨_, rfl⟩
  obtain ⟨B1, hB1⟩ : ∃ E, E = addsB t.first t.L t.O f := ⟨_, rfl⟩
  obtain ⟨nA, hnA⟩ : ∃ n, n = L1.length := ⟨_, rfl⟩
  obtain ⟨nO, hnO⟩ : ∃ n, n = O1.length := ⟨_, rfl⟩
  have HADDw : Hid (∀ U : World, Below w.heap.size w U → Calls Tryz.prog 172 #[.agg #[.int .i64 first, gv, ov], .agg #[.int .i64 ft, .bool fk, pv]] U fun e w' => ∃ va vc qa qc, e = .returned (.tuple #[.agg #[.int .i64 F1, .slice va nA vc, .slice qa nO qc], .bool B1, .int .i64 E1]) ∧ Hid (GrsIn (fun g => U.heap.size ≤ g) w' (.slice va nA vc) L1) ∧ Hid (FrsIn (fun g => U.heap.size ≤ g) w' (.slice qa nO qc) O1) ∧ Below U.heap.size U w') := fun U hU => by
    rw [hft, hfk, hfirst]
    refine (storeAdd_new t.first gv ov pv t.L t.O f U ((hr.2.2.1.mono fun _ _ _ => trivial).below hU) ((hr.2.2.2.mono fun _ _ _ => trivial).below hU) (hp.below hU)).mono ?_
    rintro e w' ⟨gv', ov', rfl, h1, h2, h3⟩
    rw [← hL1] at h1
    rw [← hO1] at h2
    obtain ⟨va, vc, ev, _, _⟩ := h1.len
    obtain ⟨qa, qc, eq, _, _⟩ := h2.len
    rw [← hnA] at ev
    rw [← hnO] at eq
    subst ev eq
    rw [← hE1, ← hF1, ← hB1]
    exact ⟨va, vc, qa, qc, rfl, h1, h2, h3⟩
  rw [← hE1, ← hF1, ← hL1, ← hO1, ← hB1, ← hlast, ← hnext, ← hft, ← hfk]
  rw [← hlast, ← hnext, ← hfirst] at hM
  rw [← hhn] at eh
  rw [← hbn] at eb
  rw [← hln] at eg
  rw [← hlo] at eo
  rw [← hpn] at ep
  have HSU : Hid (∀ g, w.heap.size ≤ g → S g) := hS
  clear hlast hnext hfirst hhn hbn hln hlo hpn hft hfk hE1 hF1 hL1 hO1 hB1 hnA hnO hp hS
  subst eh eb eg eo ep
  have HMw : Hid (Blk w M #[.int .i64 last, .int .i64 next, .slice ha hn hc, .slice ba bn bc, .int .i64 first, .slice ga ln gc, .slice oa lo oc, .int .i64 c] 155) := hM
  have HRw : Hid (TrIn (fun g => S g ∧ g ≠ M) w (.slice ha hn hc) (.slice ba bn bc) (.slice ga ln gc) (.slice oa lo oc) t) := hr
  have hMw := hM.lt
  clear hM hr
  go_enter Tryz.func161, Tryz.ntmps161
  go_wp2_with fail
  obtain ⟨w0, hw0⟩ : ∃ w0, w0 = w.alloc (.cells #[.int .i64 ft, .bool fk, .slice pa pn pc] 98) := ⟨_, rfl⟩
  have HB0 : Hid (Below w.heap.size w w0) := by rw [hw0]; exact (Below.refl _ _).alloc (Nat.le_refl _) _
  have z0 : w0.heap.size = w.heap.size + 1 := by rw [hw0]; simp
  have HM0 : Hid (Blk w0 M #[.int .i64 last, .int .i64 next, .slice ha hn hc, .slice ba bn bc, .int .i64 first, .slice ga ln gc, .slice oa lo oc, .int .i64 c] 155) := HMw.out.below HB0.out hMw
  have HF0 : Hid (Blk w0 w.heap.size #[.int .i64 ft, .bool fk, .slice pa pn pc] 98) := Blk.newE hw0
  have HR0 : Hid (TrIn (fun g => S g ∧ g ≠ M) w0 (.slice ha hn hc) (.slice ba bn bc) (.slice ga ln gc) (.slice oa lo oc) t) := HRw.out.below HB0.out
  have HADD : Hid (∀ U : World, Below w0.heap.size w0 U → Calls Tryz.prog 172 #[.agg #[.int .i64 first, .slice ga ln gc, .slice oa lo oc], .agg #[.int .i64 ft, .bool fk, .slice pa pn pc]] U fun e w' => ∃ va vc qa qc, e = .returned (.tuple #[.agg #[.int .i64 F1, .slice va nA vc, .slice qa nO qc], .bool B1, .int .i64 E1]) ∧ Hid (GrsIn (fun g => U.heap.size ≤ g) w' (.slice va nA vc) L1) ∧ Hid (FrsIn (fun g => U.heap.size ≤ g) w' (.slice qa nO qc) O1) ∧ Below U.heap.size U w') := fun U hU => HADDw.out U (HB0.out.trans (hU.mono (by omega)))
  rw [← hw0]
  clear hw0 HMw HRw HADDw
  refine region_main (by kernel_rfl) (by kernel_rfl) [.quiet (.pointer (some ⟨M, 0, none⟩)), .quiet (.pointer (some ⟨M, 0, none⟩)), .quiet (.pointer (some ⟨M, 0, none⟩)), .quiet (.pointer (some ⟨M, 4, none⟩)), .quiet (.agg #[.int .i64 first, .slice ga ln gc, .slice oa lo oc]), .quiet (.agg #[.int .i64 ft, .bool fk, .slice pa pn pc]), .main, .fin (fun r => r), .fin (exT 0), .fin (exT 1), .fin (exT 2), .box 32 #[.int .i64 0, .slice none 0 0, .slice none 0 0], .put 11 (fun r => aggC (exT 0 r)), .fin (exT 1), .fin (exT 2)] 6 (by kernel_rfl)
    (fun S r w' => ∃ va vc qa qc, r = .tuple #[.agg #[.int .i64 F1, .slice va nA vc, .slice qa nO qc], .bool B1, .int .i64 E1] ∧ GrsIn (fun g => S g ∧ w0.heap.size ≤ g) w' (.slice va nA vc) L1 ∧ FrsIn (fun g => S g ∧ w0.heap.size ≤ g) w' (.slice qa nO qc) O1) ?loc ?step ?fin
  case loc =>
    rintro S r w1 w3 ⟨va, vc, qa, qc, rfl, h1, h2⟩ hs hsame
    exact ⟨va, vc, qa, qc, rfl, h1.to ⟨hs, fun g hg hS => hsame g hS.1 hg⟩ (fun _ _ h => h), h2.to ⟨hs, fun g hg hS => hsame g hS.1 hg⟩ (fun _ _ h => h)⟩
  case step =>
    intro i o ho a' w' r hb hfree hvals
    have f0 : a'.eval (.tmp 0) = .pointer (some ⟨M, 0, none⟩) := (hfree 0 (by kernel_rfl)).trans rfl
    have f3 : a'.eval (.tmp 3) = .pointer (some ⟨w.heap.size, 0, none⟩) := (hfree 3 (by kernel_rfl)).trans rfl
    obtain ⟨y0, y1, y2, y3, y4, y5, y6, y7⟩ := (HM0.out.below hb HM0.out.lt).eight
    obtain ⟨j0, j1, j2⟩ := (HF0.out.below hb HF0.out.lt).three
    match i, ho with
    | 0, ho =>
      simp at ho; subst ho
      show (execOp a'.eval _).run _ w' = .ok (.value _) w'
      generalize a'.eval = ρ at *
      simp [execOp, go_sem, f0]
    | 1, ho =>
      simp at ho; subst ho
      have e9 : a'.eval (.tmp 9) = .pointer (some ⟨M, 0, none⟩) := hvals 0 _ (by kernel_rfl) rfl
      show (execOp a'.eval _).run _ w' = .ok (.value _) w'
      generalize a'.eval = ρ at *
      simp [execOp, go_sem, e9]
    | 2, ho =>
      simp at ho; subst ho
      have e10 : a'.eval (.tmp 10) = .pointer (some ⟨M, 0, none⟩) := hvals 1 _ (by kernel_rfl) rfl
      show (execOp a'.eval _).run _ w' = .ok (.value _) w'
      generalize a'.eval = ρ at *
      simp [execOp, go_sem, e10]
    | 3, ho =>
      simp at ho; subst ho
      have e11 : a'.eval (.tmp 11) = .pointer (some ⟨M, 0, none⟩) := hvals 2 _ (by kernel_rfl) rfl
      show (execOp a'.eval _).run _ w' = .ok (.value _) w'
      generalize a'.eval = ρ at *
      simp [execOp, go_sem, e11]
    | 4, ho =>
      simp at ho; subst ho
      have e12 : a'.eval (.tmp 12) = .pointer (some ⟨M, 4, none⟩) := hvals 3 _ (by kernel_rfl) rfl
      show (execOp a'.eval _).run _ w' = .ok (.value _) w'
      generalize a'.eval = ρ at *
      simp [execOp, go_sem, e12, y4, y5, y6]
    | 5, ho =>
      simp at ho; subst ho
      show (execOp a'.eval _).run _ w' = .ok (.value _) w'
      generalize a'.eval = ρ at *
      simp [execOp, go_sem, f3, j0, j1, j2]
    | 6, ho =>
      simp at ho; subst ho
      have e13 : a'.eval (.tmp 13) = .agg #[.int .i64 first, .slice ga ln gc, .slice oa lo oc] := hvals 4 _ (by kernel_rfl) rfl
      have e14 : a'.eval (.tmp 14) = .agg #[.int .i64 ft, .bool fk, .slice pa pn pc] := hvals 5 _ (by kernel_rfl) rfl
      have ef : a'.eval (.func 172) = .func (.func 172) #[] #[] := rfl
      show ∃ f args, (execOp a'.eval _).run _ w' = .ok (.enter f args) w' ∧ _
      generalize a'.eval = ρ at *
      refine ⟨172, #[.agg #[.int .i64 first, .slice ga ln gc, .slice oa lo oc], .agg #[.int .i64 ft, .bool fk, .slice pa pn pc]], by simp [execOp, go_sem, e13, e14, ef], ?_⟩
      refine (HADD.out w' hb).mono ?_
      rintro e w'' ⟨va, vc, qa, qc, rfl, h1, h2, hb4⟩
      exact ⟨_, rfl, ⟨va, vc, qa, qc, rfl, h1.out.mono (fun g hl hg => ⟨⟨hl, .inr hg⟩, (by have := hb.size; omega)⟩), h2.out.mono (fun g hl hg => ⟨⟨hl, .inr hg⟩, (by have := hb.size; omega)⟩)⟩, hb4⟩
    | 7, ho =>
      simp at ho; subst ho
      have e15 : a'.eval (.tmp 15) = r := hvals 6 _ (by kernel_rfl) rfl
      show ∀ S, _ → (execOp a'.eval _).run _ w' = .ok (.value _) w'
      rintro S ⟨va, vc, qa, qc, rfl, _, _⟩
      try simp only [exT] at e15
      generalize a'.eval = ρ at *
      simp [execOp, go_sem, e15]
    | 8, ho =>
      simp at ho; subst ho
      have e8 : a'.eval (.tmp 8) = r := hvals 7 _ (by kernel_rfl) rfl
      show ∀ S, _ → (execOp a'.eval _).run _ w' = .ok (.value _) w'
      rintro S ⟨va, vc, qa, qc, rfl, _, _⟩
      try simp only [exT] at e8
      generalize a'.eval = ρ at *
      simp [execOp, go_sem, e8, exT]
    | 9, ho =>
      simp at ho; subst ho
      have e8 : a'.eval (.tmp 8) = r := hvals 7 _ (by kernel_rfl) rfl
      show ∀ S, _ → (execOp a'.eval _).run _ w' = .ok (.value _) w'
      rintro S ⟨va, vc, qa, qc, rfl, _, _⟩
      try simp only [exT] at e8
      generalize a'.eval = ρ at *
      simp [execOp, go_sem, e8, exT]
    | 10, ho =>
      simp at ho; subst ho
      have e8 : a'.eval (.tmp 8) = r := hvals 7 _ (by kernel_rfl) rfl
      show ∀ S, _ → (execOp a'.eval _).run _ w' = .ok (.value _) w'
      rintro S ⟨va, vc, qa, qc, rfl, _, _⟩
      try simp only [exT] at e8
      generalize a'.eval = ρ at *
      simp [execOp, go_sem, e8, exT]
    | 11, ho =>
      simp at ho; subst ho
      show (execOp a'.eval _).run _ w' = .ok (.value _) _
      generalize a'.eval = ρ at *
      simp [execOp, go_sem]
    | 12, ho =>
      simp at ho; subst ho
      have e16 : a'.eval (.tmp 16) = (exT 0) r := hvals 8 _ (by kernel_rfl) rfl
      show ∀ S, _ → ∀ t z g C, _ → _ → _ → _ → ∃ w'', (execOp a'.eval _).run _ w' = .ok .skip w'' ∧ _
      rintro S ⟨va, vc, qa, qc, rfl, _, _⟩ t z g C hz hC hs (eb : a'.eval (.tmp 5) = _)
      cases hz
      obtain ⟨u0, u1, u2, q0, q1, q2⟩ := cells3 hC hs
      have p0 := hC.free 0
      have p1 := hC.free 1
      have p2 := hC.free 2
      obtain ⟨m1, m2, m3⟩ := set3 hC hs (.int .i64 F1) (.slice va nA vc) (.slice qa nO qc)
      simp only [exT] at e16
      generalize a'.eval = ρ at *
      exact ⟨_, by simp [execOp, go_sem, e16, eb, q0, q1, q2, p0, p1, p2], m1, m2, rfl, m3, rfl, rfl, rfl⟩
    | 13, ho =>
      simp at ho; subst ho
      have e17 : a'.eval (.tmp 17) = (exT 1) r := hvals 9 _ (by kernel_rfl) rfl
      show ∀ S, _ → (execOp a'.eval _).run _ w' = .ok (.value _) w'
      rintro S ⟨va, vc, qa, qc, rfl, _, _⟩
      try simp only [exT] at e17
      generalize a'.eval = ρ at *
      simp [execOp, go_sem, e17, exT]
    | 14, ho =>
      simp at ho; subst ho
      have e18 : a'.eval (.tmp 18) = (exT 2) r := hvals 10 _ (by kernel_rfl) rfl
      show ∀ S, _ → (execOp a'.eval _).run _ w' = .ok (.value _) w'
      rintro S ⟨va, vc, qa, qc, rfl, _, _⟩
      try simp only [exT] at e18
      generalize a'.eval = ρ at *
      simp [execOp, go_sem, e18, exT]
    | i + 15, ho => simp at ho
  case fin =>
    rintro r gs Sr W hb ⟨va, vc, qa, qc, rfl, h1, h2⟩ hS hbox hap
    obtain ⟨p1, p2, C, p3, p4⟩ := hbox 11 _ _ (by decide) rfl
    have p5 := p4 12 _ (by decide) rfl
    subst p5
    have KP : Hid (Blk W (gs 11) #[.int .i64 F1, .slice va nA vc, .slice qa nO qc] 32) := p3
    simp only [putK, Kd.out, exT, Act.put, List.setIfInBounds_toArray, List.set_cons_succ, List.set_cons_zero, List.getElem?_toArray, List.getElem?_cons_zero, List.getElem?_cons_succ, Option.getD_some]
    obtain ⟨p, hp⟩ : ∃ p, p = gs 11 := ⟨_, rfl⟩
    rw [← hp] at KP p1
    rw [← hp]
    have HBW : Hid (Below w0.heap.size w0 W) := hb
    have H1 : Hid (GrsIn (fun g => w0.heap.size ≤ g) W (.slice va nA vc) L1) := h1.mono fun _ _ h => h.2
    have H2 : Hid (FrsIn (fun g => w0.heap.size ≤ g) W (.slice qa nO qc) O1) := h2.mono fun _ _ h => h.2
    clear hp h1 h2 hS hbox hap p2 p3 p4 hb
    have HMW : Hid (Blk W M #[.int .i64 last, .int .i64 next, .slice ha hn hc, .slice ba bn bc, .int .i64 first, .slice ga ln gc, .slice oa lo oc, .int .i64 c] 155) := HM0.out.below HBW.out HM0.out.lt
    have HRW : Hid (TrIn (fun g => S g ∧ g ≠ M) W (.slice ha hn hc) (.slice ba bn bc) (.slice ga ln gc) (.slice oa lo oc) t) := HR0.out.below HBW.out
    obtain ⟨x0, x1, x2⟩ := KP.out.three
    obtain ⟨y0, y1, y2, y3, y4, y5, y6, y7⟩ := HMW.out.eight
    have fM := HMW.out.free
    have lM := HMW.out.lt
    have hpM : ¬ p = M := by omega
    obtain ⟨V, hV⟩ : ∃ V, V = ((W.setCell ⟨M, 4, none⟩ (.int .i64 F1)).setCell ⟨M, 5, none⟩ (.slice va nA vc)).setCell ⟨M, 6, none⟩ (.slice qa nO qc) := ⟨_, rfl⟩
    have hVo : ∀ g, g ≠ M → V.heap[g]? = W.heap[g]? := fun g hg => by
      rw [hV, Below.heap_setCell _ _ _ _ (by exact hg), Below.heap_setCell _ _ _ _ (by exact hg), Below.heap_setCell _ _ _ _ (by exact hg)]
    have hVs : V.heap.size = W.heap.size := by rw [hV]; simp
    have HMV : Hid (Blk V M #[.int .i64 last, .int .i64 next, .slice ha hn hc, .slice ba bn bc, .int .i64 F1, .slice va nA vc, .slice qa nO qc, .int .i64 c] 155) := by
      have := ((HMW.out.set 4 (.int .i64 F1)).set 5 (.slice va nA vc)).set 6 (.slice qa nO qc)
      rw [hV]; simpa [Hid] using this
    have HKV : Hid (Kept [M] w V) := by
      rw [hV]
      have k := (Kept.refl [M] w).below (HB0.out.trans (HBW.out.mono HB0.out.size))
      exact ((k.setCell (p := ⟨M, 4, none⟩) (by simp) _).setCell (p := ⟨M, 5, none⟩) (by simp) _).setCell (p := ⟨M, 6, none⟩) (by simp) _
    have HRV : Hid (SlsIn (fun g => S g ∧ g ≠ M) V (.slice ha hn hc) t.h ∧ SlsIn (fun g => S g ∧ g ≠ M) V (.slice ba bn bc) t.o ∧ GrsIn (fun g => S g ∧ g ≠ M) V (.slice va nA vc) L1 ∧ FrsIn (fun g => S g ∧ g ≠ M) V (.slice qa nO qc) O1) := by
      have so : SameOn (fun g => g ≠ M) W V := ⟨by omega, fun g _ hg => hVo g hg⟩
      have hsz := HB0.out.size
      exact ⟨HRW.out.1.to (so.mono fun g h => h.2) (fun _ _ h => h), HRW.out.2.1.to (so.mono fun g h => h.2) (fun _ _ h => h), H1.out.to (so.mono fun g h => by omega) (fun g _ h => ⟨HSU.out g (by omega), by omega⟩), H2.out.to (so.mono fun g h => by omega) (fun g _ h => ⟨HSU.out g (by omega), by omega⟩)⟩
    clear hVo hVs H1 H2 HRW HMW
    cases B1
    case false =>
      go_wp2_with fail
      rw [← hV]
      go_wp2
      go_ret
      refine ⟨rfl, ⟨_, _, _, _, ?_, HRV.out⟩, HKV.out⟩
      have := HMV.out
      simpa using this
    case true =>
      obtain ⟨V2, hV2⟩ : ∃ X, X = V.setCell ⟨M, 7, none⟩ (.int .i64 (c + 1)) := ⟨_, rfl⟩
      have HMV2 : Hid (Blk V2 M #[.int .i64 last, .int .i64 next, .slice ha hn hc, .slice ba bn bc, .int .i64 F1, .slice va nA vc, .slice qa nO qc, .int .i64 (c + 1)] 155) := by
        have := HMV.out.set 7 (.int .i64 (c + 1))
        rw [hV2]; simpa [Hid] using this
      have HKV2 : Hid (Kept [M] w V2) := by rw [hV2]; exact HKV.out.setCell (p := ⟨M, 7, none⟩) (by simp) _
      have HRV2 : Hid (SlsIn (fun g => S g ∧ g ≠ M) V2 (.slice ha hn hc) t.h ∧ SlsIn (fun g => S g ∧ g ≠ M) V2 (.slice ba bn bc) t.o ∧ GrsIn (fun g => S g ∧ g ≠ M) V2 (.slice va nA vc) L1 ∧ FrsIn (fun g => S g ∧ g ≠ M) V2 (.slice qa nO qc) O1) := by
        have so : SameOn (fun g => S g ∧ g ≠ M) V V2 := ⟨by rw [hV2]; simp, fun g _ hg => by rw [hV2, Below.heap_setCell _ _ _ _ (by exact hg.2)]⟩
        exact ⟨HRV.out.1.to so (fun _ _ h => h), HRV.out.2.1.to so (fun _ _ h => h), HRV.out.2.2.1.to so (fun _ _ h => h), HRV.out.2.2.2.to so (fun _ _ h => h)⟩
      go_upto_region 4 with fail
      rw [← hV]
      clear hV x0 x1 x2 y0 y1 y2 y3 y4 y5 y6 y7 fM lM
      obtain ⟨y0, y1, y2, y3, y4, y5, y6, y7⟩ := HMV.out.eight
      have fM := HMV.out.free
      have lM := HMV.out.lt
      go_wp2_with fail
      rw [← hV2]
      go_wp2
      go_ret
      exact ⟨rfl, ⟨_, _, _, _, HMV2.out, HRV2.out⟩, HKV2.out⟩

end Go.Proofs.YtnpaejknoipicagGreat

namespace Go.Proofs.YtnpaejknoipicagGreat
open Go.RowKit

set_option maxHeartbeats 8000000 in
set_option maxRecDepth 100000 in
theorem tkAdd_any (S : Nat → Prop) (M : Nat) (t : Tr) (c : Int) (x : Sk) (w : World) (hT : TkB S M w t c) (hto : ochk t.o = 0) (hx : x.chk = 0) (hS : ∀ g, w.heap.size ≤ g → S g) (hc0 : 0 ≤ c) (hc1 : c ≤ 1000000) :
    Calls Tryz.prog 141 #[.pointer (some ⟨M, 0, none⟩), x.val] w fun e w' => e = .returned (.int .i64 (tk1 t x).2.2) ∧ TkB S M w' (tk1 t x).1 (c + (tk1 t x).2.1) ∧ Kept [M] w w' := by
  obtain ⟨hv, bv, gv, ov, hM, hr⟩ := hT
  obtain ⟨ha, hc, ba, bc, ga, gc, oa, oc, eh, eb, eg, eo⟩ := hr.slices
  obtain ⟨last, hlast⟩ : ∃ x, x = t.last := ⟨_, rfl⟩
  obtain ⟨next, hnext⟩ : ∃ x, x = t.next := ⟨_, rfl⟩
  obtain ⟨first, hfirst⟩ : ∃ x, x = t.first := ⟨_, rfl⟩
  obtain ⟨hn, hhn⟩ : ∃ x, x = t.h.length := ⟨_, rfl⟩
  obtain ⟨bn, hbn⟩ : ∃ x, x = t.o.length := ⟨_, rfl⟩
  obtain ⟨ln, hln⟩ : ∃ x, x = t.L.length := ⟨_, rfl⟩
  obtain ⟨lo, hlo⟩ : ∃ x, x = t.O.length := ⟨_, rfl⟩
  obtain ⟨B1, hB1⟩ : ∃ E, E = addO t.o x := ⟨_, rfl⟩
  obtain ⟨T1, hT1⟩ : ∃ E, E = addT t.o x := ⟨_, rfl⟩
  obtain ⟨K1, hK1⟩ : ∃ E, E = addK t.o x := ⟨_, rfl⟩
  obtain ⟨P1, hP1⟩ : ∃ E, E = addP t.o x := ⟨_, rfl⟩
  obtain ⟨W1, hW1⟩ : ∃ E, E = addW t.o x := ⟨_, rfl⟩
  obtain ⟨nB, hnB⟩ : ∃ n, n = B1.length := ⟨_, rfl⟩
  obtain ⟨nP, hnP⟩ : ∃ n, n = P1.length := ⟨_, rfl⟩
  have HWW : Hid (W1 = addW t.o x ∧ B1 = addO t.o x ∧ T1 = addT t.o x ∧ K1 = addK t.o x ∧ P1 = addP t.o x) := ⟨hW1, hB1, hT1, hK1, hP1⟩
  have HADDw : Hid (∀ U : World, Below w.heap.size w U → Calls Tryz.prog 133 #[.agg #[bv], .agg #[.int .i64 x.n, .int .i64 x.p.seq, .int .i64 x.p.time, .bool x.p.f, .bool x.p.e, .bool x.p.k, .string x.p.t]] U fun e w' => ∃ va vc qa qc, e = .returned (.tuple #[.agg #[.slice va nB vc], .agg #[.int .i64 T1, .bool K1, .slice qa nP qc], .bool W1, .int .i64 0]) ∧ Hid (SlsIn (fun g => U.heap.size ≤ g) w' (.slice va nB vc) B1) ∧ Hid (StrsIn (fun g => U.heap.size ≤ g) w' (.slice qa nP qc) P1) ∧ Below U.heap.size U w') := fun U hU => by
    obtain ⟨o1, o2, o3⟩ := ochk_len hto
    refine (frameAdd_any bv t.o x U (hr.2.1.below hU).1 (by omega)).mono ?_
    rintro e w' ⟨ov', pv', rfl, ⟨h1, h2, h3, h4⟩, h5⟩
    have e0 : addE t.o x = 0 := by unfold addE; rw [if_pos hto]; exact hx
    have e1 : addR t.o x = ⟨addO t.o x, addT t.o x, addK t.o x, addP t.o x, addW t.o x⟩ := by unfold addR; rw [if_pos e0]
    rw [e1] at h1 h2 ⊢
    simp only at h1 h2 ⊢
    rw [← hB1] at h1
    rw [← hP1] at h2
    obtain ⟨va, vc, ev⟩ := h1.len
    obtain ⟨qa, qc, eq⟩ := h2.len
    rw [← hnB] at ev
    rw [← hnP] at eq
    subst ev eq
    rw [e0, ← hT1, ← hK1, ← hW1]
    have l1 : B1.length ≤ 3 := by rw [hB1]; exact addO_len _ _ o1
    have l2 : P1.length ≤ 4 := by rw [hP1]; exact addP_len _ _ o1
    exact ⟨va, vc, qa, qc, rfl, SlsIn.of h1 (by omega) (fun g hg _ => (h3 g hg).1), ⟨h2, by omega, fun g hg _ => h4 g hg⟩, h5⟩
  rw [← hlast, ← hnext, ← hfirst] at hM
  rw [← hhn] at eh
  rw [← hbn] at eb
  rw [← hln] at eg
  rw [← hlo] at eo
  have HSU : Hid (∀ g, w.heap.size ≤ g → S g) := hS
  have HTT : Hid (last = t.last ∧ next = t.next ∧ first = t.first) := ⟨hlast, hnext, hfirst⟩
  clear hlast hnext hfirst hhn hbn hln hlo hB1 hT1 hK1 hP1 hW1 hnB hnP hS hx hto
  subst eh eb eg eo
  have HMw : Hid (Blk w M #[.int .i64 last, .int .i64 next, .slice ha hn hc, .slice ba bn bc, .int .i64 first, .slice ga ln gc, .slice oa lo oc, .int .i64 c] 155) := hM
  have HRw : Hid (TrIn (fun g => S g ∧ g ≠ M) w (.slice ha hn hc) (.slice ba bn bc) (.slice ga ln gc) (.slice oa lo oc) t) := hr
  have hMw := hM.lt
  clear hM hr
  simp only [Sk.val]
  go_enter Tryz.func141, Tryz.ntmps141
  go_wp2_with fail
  obtain ⟨w0, hw0⟩ : ∃ w0, w0 = w.alloc (.cells #[.int .i64 x.n, .int .i64 x.p.seq, .int .i64 x.p.time, .bool x.p.f, .bool x.p.e, .bool x.p.k, .string x.p.t] 106) := ⟨_, rfl⟩
  have HB0 : Hid (Below w.heap.size w w0) := by rw [hw0]; exact (Below.refl _ _).alloc (Nat.le_refl _) _
  have z0 : w0.heap.size = w.heap.size + 1 := by rw [hw0]; simp
  have HM0 : Hid (Blk w0 M #[.int .i64 last, .int .i64 next, .slice ha hn hc, .slice ba bn bc, .int .i64 first, .slice ga ln gc, .slice oa lo oc, .int .i64 c] 155) := HMw.out.below HB0.out hMw
  have HF0 : Hid (Blk w0 w.heap.size #[.int .i64 x.n, .int .i64 x.p.seq, .int .i64 x.p.time, .bool x.p.f, .bool x.p.e, .bool x.p.k, .string x.p.t] 106) := Blk.newE hw0
  have HR0 : Hid (TrIn (fun g => S g ∧ g ≠ M) w0 (.slice ha hn hc) (.slice ba bn bc) (.slice ga ln gc) (.slice oa lo oc) t) := HRw.out.below HB0.out
  have HADD : Hid (∀ U : World, Below w0.heap.size w0 U → Calls Tryz.prog 133 #[.agg #[.slice ba bn bc], .agg #[.int .i64 x.n, .int .i64 x.p.seq, .int .i64 x.p.time, .bool x.p.f, .bool x.p.e, .bool x.p.k, .string x.p.t]] U fun e w' => ∃ va vc qa qc, e = .returned (.tuple #[.agg #[.slice va nB vc], .agg #[.int .i64 T1, .bool K1, .slice qa nP qc], .bool W1, .int .i64 0]) ∧ Hid (SlsIn (fun g => U.heap.size ≤ g) w' (.slice va nB vc) B1) ∧ Hid (StrsIn (fun g => U.heap.size ≤ g) w' (.slice qa nP qc) P1) ∧ Below U.heap.size U w') := fun U hU => HADDw.out U (HB0.out.trans (hU.mono (by omega)))
  rw [← hw0]
  clear hw0 HMw HRw HADDw
  refine region_main (by kernel_rfl) (by kernel_rfl) [.quiet (.pointer (some ⟨M, 0, none⟩)), .quiet (.pointer (some ⟨M, 0, none⟩)), .quiet (.pointer (some ⟨M, 0, none⟩)), .quiet (.pointer (some ⟨M, 3, none⟩)), .quiet (.agg #[.slice ba bn bc]), .quiet (.agg #[.int .i64 x.n, .int .i64 x.p.seq, .int .i64 x.p.time, .bool x.p.f, .bool x.p.e, .bool x.p.k, .string x.p.t]), .main, .fin (fun r => r), .fin (exT 0), .fin (exT 1), .fin (exT 2), .fin (exT 3), .box 26 #[.slice none 0 0], .box 98 #[.int .i64 0, .bool false, .slice none 0 0], .put 12 (fun r => aggC (exT 0 r)), .put 13 (fun r => aggC (exT 1 r)), .fin (exT 2), .fin (exT 3)] 6 (by kernel_rfl)
    (fun S r w' => ∃ va vc qa qc, r = .tuple #[.agg #[.slice va nB vc], .agg #[.int .i64 T1, .bool K1, .slice qa nP qc], .bool W1, .int .i64 0] ∧ SlsIn (fun g => S g ∧ w0.heap.size ≤ g) w' (.slice va nB vc) B1 ∧ StrsIn (fun g => S g ∧ w0.heap.size ≤ g) w' (.slice qa nP qc) P1) ?loc ?step ?fin
  case loc =>
    rintro S r w1 w3 ⟨va, vc, qa, qc, rfl, h1, h2⟩ hs hsame
    exact ⟨va, vc, qa, qc, rfl, h1.to ⟨hs, fun g hg hS => hsame g hS.1 hg⟩ (fun _ _ h => h), h2.to ⟨hs, fun g hg hS => hsame g hS.1 hg⟩ (fun _ _ h => h)⟩
  case step =>
    intro i o ho a' w' r hb hfree hvals
    have f0 : a'.eval (.tmp 0) = .pointer (some ⟨M, 0, none⟩) := (hfree 0 (by kernel_rfl)).trans rfl
    have f3 : a'.eval (.tmp 3) = .pointer (some ⟨w.heap.size, 0, none⟩) := (hfree 3 (by kernel_rfl)).trans rfl
    obtain ⟨y0, y1, y2, y3, y4, y5, y6, y7⟩ := (HM0.out.below hb HM0.out.lt).eight
    obtain ⟨j0, j1, j2, j3, j4, j5, j6⟩ := (HF0.out.below hb HF0.out.lt).sevenc
    match i, ho with
    | 0, ho =>
      simp at ho; subst ho
      show (execOp a'.eval _).run _ w' = .ok (.value _) w'
      generalize a'.eval = ρ at *
      simp [execOp, go_sem, f0]
    | 1, ho =>
      simp at ho; subst ho
      have e10 : a'.eval (.tmp 10) = .pointer (some ⟨M, 0, none⟩) := hvals 0 _ (by kernel_rfl) rfl
      show (execOp a'.eval _).run _ w' = .ok (.value _) w'
      generalize a'.eval = ρ at *
      simp [execOp, go_sem, e10]
    | 2, ho =>
      simp at ho; subst ho
      have e11 : a'.eval (.tmp 11) = .pointer (some ⟨M, 0, none⟩) := hvals 1 _ (by kernel_rfl) rfl
      show (execOp a'.eval _).run _ w' = .ok (.value _) w'
      generalize a'.eval = ρ at *
      simp [execOp, go_sem, e11]
    | 3, ho =>
      simp at ho; subst ho
      have e12 : a'.eval (.tmp 12) = .pointer (some ⟨M, 0, none⟩) := hvals 2 _ (by kernel_rfl) rfl
      show (execOp a'.eval _).run _ w' = .ok (.value _) w'
      generalize a'.eval = ρ at *
      simp [execOp, go_sem, e12]
    | 4, ho =>
      simp at ho; subst ho
      have e13 : a'.eval (.tmp 13) = .pointer (some ⟨M, 3, none⟩) := hvals 3 _ (by kernel_rfl) rfl
      show (execOp a'.eval _).run _ w' = .ok (.value _) w'
      generalize a'.eval = ρ at *
      simp [execOp, go_sem, e13, y3]
    | 5, ho =>
      simp at ho; subst ho
      show (execOp a'.eval _).run _ w' = .ok (.value _) w'
      generalize a'.eval = ρ at *
      simp [execOp, go_sem, f3, j0, j1, j2, j3, j4, j5, j6]
    | 6, ho =>
      simp at ho; subst ho
      have e14 : a'.eval (.tmp 14) = .agg #[.slice ba bn bc] := hvals 4 _ (by kernel_rfl) rfl
      have e15 : a'.eval (.tmp 15) = .agg #[.int .i64 x.n, .int .i64 x.p.seq, .int .i64 x.p.time, .bool x.p.f, .bool x.p.e, .bool x.p.k, .string x.p.t] := hvals 5 _ (by kernel_rfl) rfl
      have ef : a'.eval (.func 133) = .func (.func 133) #[] #[] := rfl
      show ∃ f args, (execOp a'.eval _).run _ w' = .ok (.enter f args) w' ∧ _
      generalize a'.eval = ρ at *
      refine ⟨133, #[.agg #[.slice ba bn bc], .agg #[.int .i64 x.n, .int .i64 x.p.seq, .int .i64 x.p.time, .bool x.p.f, .bool x.p.e, .bool x.p.k, .string x.p.t]], by simp [execOp, go_sem, e14, e15, ef], ?_⟩
      refine (HADD.out w' hb).mono ?_
      rintro e w'' ⟨va, vc, qa, qc, rfl, h1, h2, hb4⟩
      exact ⟨_, rfl, ⟨va, vc, qa, qc, rfl, h1.out.mono (fun g hl hg => ⟨⟨hl, .inr hg⟩, (by have := hb.size; omega)⟩), h2.out.mono (fun g hl hg => ⟨⟨hl, .inr hg⟩, (by have := hb.size; omega)⟩)⟩, hb4⟩
    | 7, ho =>
      simp at ho; subst ho
      have e16 : a'.eval (.tmp 16) = r := hvals 6 _ (by kernel_rfl) rfl
      show ∀ S, _ → (execOp a'.eval _).run _ w' = .ok (.value _) w'
      rintro S ⟨va, vc, qa, qc, rfl, _, _⟩
      try simp only [exT] at e16
      generalize a'.eval = ρ at *
      simp [execOp, go_sem, e16]
    | 8, ho =>
      simp at ho; subst ho
      have e9 : a'.eval (.tmp 9) = r := hvals 7 _ (by kernel_rfl) rfl
      show ∀ S, _ → (execOp a'.eval _).run _ w' = .ok (.value _) w'
      rintro S ⟨va, vc, qa, qc, rfl, _, _⟩
      try simp only [exT] at e9
      generalize a'.eval = ρ at *
      simp [execOp, go_sem, e9, exT]
    | 9, ho =>
      simp at ho; subst ho
      have e9 : a'.eval (.tmp 9) = r := hvals 7 _ (by kernel_rfl) rfl
      show ∀ S, _ → (execOp a'.eval _).run _ w' = .ok (.value _) w'
      rintro S ⟨va, vc, qa, qc, rfl, _, _⟩
      try simp only [exT] at e9
      generalize a'.eval = ρ at *
      simp [execOp, go_sem, e9, exT]
    | 10, ho =>
      simp at ho; subst ho
      have e9 : a'.eval (.tmp 9) = r := hvals 7 _ (by kernel_rfl) rfl
      show ∀ S, _ → (execOp a'.eval _).run _ w' = .ok (.value _) w'
      rintro S ⟨va, vc, qa, qc, rfl, _, _⟩
      try simp only [exT] at e9
      generalize a'.eval = ρ at *
      simp [execOp, go_sem, e9, exT]
    | 11, ho =>
      simp at ho; subst ho
      have e9 : a'.eval (.tmp 9) = r := hvals 7 _ (by kernel_rfl) rfl
      show ∀ S, _ → (execOp a'.eval _).run _ w' = .ok (.value _) w'
      rintro S ⟨va, vc, qa, qc, rfl, _, _⟩
      try simp only [exT] at e9
      generalize a'.eval = ρ at *
      simp [execOp, go_sem, e9, exT]
    | 12, ho =>
      simp at ho; subst ho
      show (execOp a'.eval _).run _ w' = .ok (.value _) _
      generalize a'.eval = ρ at *
      simp [execOp, go_sem]
    | 13, ho =>
      simp at ho; subst ho
      show (execOp a'.eval _).run _ w' = .ok (.value _) _
      generalize a'.eval = ρ at *
      simp [execOp, go_sem]
    | 14, ho =>
      simp at ho; subst ho
      have e17 : a'.eval (.tmp 17) = (exT 0) r := hvals 8 _ (by kernel_rfl) rfl
      show ∀ S, _ → ∀ t z g C, _ → _ → _ → _ → ∃ w'', (execOp a'.eval _).run _ w' = .ok .skip w'' ∧ _
      rintro S ⟨va, vc, qa, qc, rfl, _, _⟩ t z g C hz hC hs (eb : a'.eval (.tmp 5) = _)
      cases hz
      obtain ⟨u0, q0⟩ := cells1 hC hs
      have p0 := hC.free 0
      obtain ⟨m1, m2, m3⟩ := set1 hC hs (.slice va nB vc)
      simp only [exT] at e17
      generalize a'.eval = ρ at *
      exact ⟨_, by simp [execOp, go_sem, e17, eb, q0, p0], m1, m2, rfl, m3, rfl, rfl, rfl⟩
    | 15, ho =>
      simp at ho; subst ho
      have e18 : a'.eval (.tmp 18) = (exT 1) r := hvals 9 _ (by kernel_rfl) rfl
      show ∀ S, _ → ∀ t z g C, _ → _ → _ → _ → ∃ w'', (execOp a'.eval _).run _ w' = .ok .skip w'' ∧ _
      rintro S ⟨va, vc, qa, qc, rfl, _, _⟩ t z g C hz hC hs (eb : a'.eval (.tmp 6) = _)
      cases hz
      obtain ⟨u0, u1, u2, q0, q1, q2⟩ := cells3 hC hs
      have p0 := hC.free 0
      have p1 := hC.free 1
      have p2 := hC.free 2
      obtain ⟨m1, m2, m3⟩ := set3 hC hs (.int .i64 T1) (.bool K1) (.slice qa nP qc)
      simp only [exT] at e18
      generalize a'.eval = ρ at *
      exact ⟨_, by simp [execOp, go_sem, e18, eb, q0, q1, q2, p0, p1, p2], m1, m2, rfl, m3, rfl, rfl, rfl⟩
    | 16, ho =>
      simp at ho; subst ho
      have e19 : a'.eval (.tmp 19) = (exT 2) r := hvals 10 _ (by kernel_rfl) rfl
      show ∀ S, _ → (execOp a'.eval _).run _ w' = .ok (.value _) w'
      rintro S ⟨va, vc, qa, qc, rfl, _, _⟩
      try simp only [exT] at e19
      generalize a'.eval = ρ at *
      simp [execOp, go_sem, e19, exT]
    | 17, ho =>
      simp at ho; subst ho
      have e20 : a'.eval (.tmp 20) = (exT 3) r := hvals 11 _ (by kernel_rfl) rfl
      show ∀ S, _ → (execOp a'.eval _).run _ w' = .ok (.value _) w'
      rintro S ⟨va, vc, qa, qc, rfl, _, _⟩
      try simp only [exT] at e20
      generalize a'.eval = ρ at *
      simp [execOp, go_sem, e20, exT]
    | i + 18, ho => simp at ho
  case fin =>
    rintro r gs Sr W hb ⟨va, vc, qa, qc, rfl, h1, h2⟩ hS hbox hap
    obtain ⟨p1, p2, C, p3, p4⟩ := hbox 12 _ _ (by decide) rfl
    have p5 := p4 14 _ (by decide) rfl
    subst p5
    obtain ⟨o1, o2, C', o3, o4⟩ := hbox 13 _ _ (by decide) rfl
    have o5 := o4 15 _ (by decide) rfl
    subst o5
    have KP : Hid (Blk W (gs 12) #[.slice va nB vc] 26) := p3
    have KO : Hid (Blk W (gs 13) #[.int .i64 T1, .bool K1, .slice qa nP qc] 98) := o3
    simp only [putK, Kd.out, exT, Act.put, List.setIfInBounds_toArray, List.set_cons_succ, List.set_cons_zero, List.getElem?_toArray, List.getElem?_cons_zero, List.getElem?_cons_succ, Option.getD_some]
    obtain ⟨p, hp⟩ : ∃ p, p = gs 12 := ⟨_, rfl⟩
    obtain ⟨o, ho⟩ : ∃ p, p = gs 13 := ⟨_, rfl⟩
    rw [← hp] at KP p1
    rw [← ho] at KO o1
    rw [← hp, ← ho]
    have HBW : Hid (Below w0.heap.size w0 W) := hb
    have H1 : Hid (SlsIn (fun g => w0.heap.size ≤ g) W (.slice va nB vc) B1) := h1.mono fun _ _ h => h.2
    have H2 : Hid (StrsIn (fun g => w0.heap.size ≤ g) W (.slice qa nP qc) P1) := h2.mono fun _ _ h => h.2
    clear hp ho h1 h2 hS hbox hap p2 p3 p4 o2 o3 o4 hb
    have HMW : Hid (Blk W M #[.int .i64 last, .int .i64 next, .slice ha hn hc, .slice ba bn bc, .int .i64 first, .slice ga ln gc, .slice oa lo oc, .int .i64 c] 155) := HM0.out.below HBW.out HM0.out.lt
    have HRW : Hid (TrIn (fun g => S g ∧ g ≠ M) W (.slice ha hn hc) (.slice ba bn bc) (.slice ga ln gc) (.slice oa lo oc) t) := HR0.out.below HBW.out
    have x0 := KP.out.one
    obtain ⟨y0, y1, y2, y3, y4, y5, y6, y7⟩ := HMW.out.eight
    have fM := HMW.out.free
    have lM := HMW.out.lt
    have hpM : ¬ p = M := by omega
    have hoM : ¬ o = M := by omega
    obtain ⟨V, hV⟩ : ∃ V, V = W.setCell ⟨M, 3, none⟩ (.slice va nB vc) := ⟨_, rfl⟩
    have hVo : ∀ g, g ≠ M → V.heap[g]? = W.heap[g]? := fun g hg => by
      rw [hV, Below.heap_setCell _ _ _ _ (by exact hg)]
    have hVs : V.heap.size = W.heap.size := by rw [hV]; simp
    have HMV : Hid (Blk V M #[.int .i64 last, .int .i64 next, .slice ha hn hc, .slice va nB vc, .int .i64 first, .slice ga ln gc, .slice oa lo oc, .int .i64 c] 155) := by
      have := HMW.out.set 3 (.slice va nB vc)
      rw [hV]; simpa [Hid] using this
    have HKV : Hid (Kept [M] w V) := by
      rw [hV]
      have k := (Kept.refl [M] w).below (HB0.out.trans (HBW.out.mono HB0.out.size))
      exact k.setCell (p := ⟨M, 3, none⟩) (by simp) _
    have KOV : Hid (Blk V o #[.int .i64 T1, .bool K1, .slice qa nP qc] 98) := (hVo o hoM).trans KO.out
    have HTV : Hid (TkB S M V ⟨t.last, t.next, t.h, B1, t.first, t.L, t.O⟩ c) := by
      have so : SameOn (fun g => g ≠ M) W V := ⟨by omega, fun g _ hg => hVo g hg⟩
      have hsz := HB0.out.size
      refine ⟨_, _, _, _, by rw [HTT.out.1, HTT.out.2.1, HTT.out.2.2] at HMV; exact HMV.out, HRW.out.1.to (so.mono fun g h => h.2) (fun _ _ h => h), H1.out.to (so.mono fun g h => by omega) (fun g _ h => ⟨HSU.out g (by omega), by omega⟩), HRW.out.2.2.1.to (so.mono fun g h => h.2) (fun _ _ h => h), HRW.out.2.2.2.to (so.mono fun g h => h.2) (fun _ _ h => h)⟩
    have HPV : Hid (StrsIn (fun _ => True) V (.slice qa nP qc) P1) := by
      have so : SameOn (fun g => g ≠ M) W V := ⟨by omega, fun g _ hg => hVo g hg⟩
      exact H2.out.to (so.mono fun g h => by omega) (fun _ _ _ => trivial)
    have hsV : w.heap.size ≤ V.heap.size := HKV.out.size
    clear hVo hVs H1 H2 HRW HMW
    cases W1
    case false =>
      have h1 : tk1 t x = (⟨t.last, t.next, t.h, B1, t.first, t.L, t.O⟩, 0, 0) := by
        have hw := HWW.out
        unfold tk1; rw [← hw.1, ← hw.2.1]; rfl
      have HH1 : Hid (tk1 t x = (⟨t.last, t.next, t.h, B1, t.first, t.L, t.O⟩, 0, 0)) := h1
      clear h1
      go_wp2_with fail
      rw [← hV]
      go_wp2
      go_ret
      rw [HH1.out]
      exact ⟨rfl, by simpa using HTV.out, HKV.out⟩
    case true =>
      have h1 : tk1 t x = (⟨t.last, t.next, t.h, B1, addsF t.first t.L t.O ⟨T1, K1, P1⟩, addsL t.first t.L t.O ⟨T1, K1, P1⟩, addsO t.first t.L t.O ⟨T1, K1, P1⟩⟩, if addsB t.first t.L t.O ⟨T1, K1, P1⟩ then 1 else 0, addsE t.first t.L t.O ⟨T1, K1, P1⟩) := by
        have hw := HWW.out
        unfold tk1; rw [← hw.1, ← hw.2.1]; unfold addF; rw [← hw.2.2.1, ← hw.2.2.2.1, ← hw.2.2.2.2]; rfl
      have HH1 : Hid (tk1 t x = (⟨t.last, t.next, t.h, B1, addsF t.first t.L t.O ⟨T1, K1, P1⟩, addsL t.first t.L t.O ⟨T1, K1, P1⟩, addsO t.first t.L t.O ⟨T1, K1, P1⟩⟩, if addsB t.first t.L t.O ⟨T1, K1, P1⟩ then 1 else 0, addsE t.first t.L t.O ⟨T1, K1, P1⟩)) := h1
      have HKEEP : Hid (Calls Tryz.prog 161 #[.pointer (some ⟨M, 0, none⟩), .agg #[.int .i64 T1, .bool K1, .slice qa nP qc]] V fun e w' => e = .returned (.int .i64 (addsE t.first t.L t.O ⟨T1, K1, P1⟩)) ∧ TkB S M w' ⟨t.last, t.next, t.h, B1, addsF t.first t.L t.O ⟨T1, K1, P1⟩, addsL t.first t.L t.O ⟨T1, K1, P1⟩, addsO t.first t.L t.O ⟨T1, K1, P1⟩⟩ (c + (if addsB t.first t.L t.O ⟨T1, K1, P1⟩ then (1 : Nat) else 0)) ∧ Kept [M] V w') :=
        tkKeep_any S M _ c ⟨T1, K1, P1⟩ _ V HTV.out HPV.out (fun g hg => HSU.out g (by omega)) hc0 hc1
      obtain ⟨E9, hE9⟩ : ∃ e, e = addsE t.first t.L t.O ⟨T1, K1, P1⟩ := ⟨_, rfl⟩
      obtain ⟨C9, hC9⟩ : ∃ e : Int, e = c + (if addsB t.first t.L t.O ⟨T1, K1, P1⟩ then (1 : Nat) else 0) := ⟨_, rfl⟩
      obtain ⟨T9, hT9⟩ : ∃ e : Tr, e = ⟨t.last, t.next, t.h, B1, addsF t.first t.L t.O ⟨T1, K1, P1⟩, addsL t.first t.L t.O ⟨T1, K1, P1⟩, addsO t.first t.L t.O ⟨T1, K1, P1⟩⟩ := ⟨_, rfl⟩
      have HC9 : Hid (C9 = c + (if addsB t.first t.L t.O ⟨T1, K1, P1⟩ then (1 : Nat) else 0)) := hC9
      rw [← hE9, ← hC9, ← hT9] at HKEEP
      rw [← hE9, ← hT9] at HH1
      clear h1 hE9 hC9 hT9 HTV HPV
      go_upto_region 4 with fail
      rw [← hV]
      clear hV x0 y0 y1 y2 y3 y4 y5 y6 y7 fM lM
      obtain ⟨f0, f1, f2⟩ := KOV.out.three
      go_wp2_with fail
      refine HKEEP.out.mono ?_
      rintro e w9 ⟨rfl, t9, k9⟩
      have T9' : Hid (TkB S M w9 T9 C9) := t9
      have K9 : Hid (Kept [M] w w9) := HKV.out.trans k9
      clear t9 k9 f0 f1 f2
      go_wp2
      go_ret
      rw [HH1.out]
      refine ⟨rfl, ?_, K9.out⟩
      have := T9'.out
      rw [HC9.out] at this
      simpa using this

end Go.Proofs.YtnpaejknoipicagGreat
