/-
  The walk of switchbacklaw.BufferTells.
-/
import Derived.Test.YtanefofheeecdabBufIs
namespace Go.Proofs.Ytanefofheeecdab
open Go.RowKit

theorem relF_lens (most : Nat) : ∀ (h : List Sk) (nx : Int) (o : List Sk), (relF most nx h o).2.1.length ≤ h.length ∧ (relF most nx h o).2.2.length ≤ h.length + o.length := by
  intro h
  induction h with
  | nil => intro nx o; simp [relF]
  | cons y r ih =>
    intro nx o
    unfold relF
    split
    · have := ih (nx + 1) (o ++ [y]); simp at this ⊢; omega
    · split
      · simp
      · have := ih (y.n + 1) (o ++ [y]); simp at this ⊢; omega
theorem putF_len {next : Int} {l : List Sk} {x : Sk} (hR : Right next l) : (putF next l x).2.1.length ≤ 1000 ∧ (putF next l x).2.2.length ≤ 1000 := by
  have h4 := hR.2.1
  unfold putF
  generalize (if next = 0 then x.n else next) = nx
  by_cases h1 : x.n < nx
  · rw [if_pos h1]; simp; omega
  · rw [if_neg h1]
    by_cases h2 : (l.any fun y => y.n == x.n) = true
    · rw [if_pos h2]; simp; omega
    · rw [if_neg h2]
      have := relF_lens 4 (insF l x) nx []
      rw [insF_len] at this
      simp at this; omega
theorem flushF_len {next : Int} {l : List Sk} (hR : Right next l) : (relF 0 next l []).2.1.length ≤ 1000 ∧ (relF 0 next l []).2.2.length ≤ 1000 := by
  have h4 := hR.2.1
  have := relF_lens 0 l next []
  simp at this; omega

set_option maxHeartbeats 4000000 in
set_option maxRecDepth 100000 in
theorem bufferTells_any (next : Int) (v : Value) (l : List Sk) (x : Sk) (w : World) (hv : Sls w v l) (hcap : ∀ a n c, v = .slice a n c → n ≤ c) (hlen : l.length ≤ 9223372036854775807) :
    Calls Try.prog 4 #[.agg #[.int .i64 next, v], x.val] w fun e w' => e = .returned (.bool true) ∧ Below w.heap.size w w' := by
  obtain ⟨a, c, hva⟩ := hv.len
  obtain ⟨n, hn⟩ : ∃ n, n = l.length := ⟨_, rfl⟩
  rw [← hn] at hva
  have HV : Hid (Sls w v l) := hv
  have HCAP : Hid (∀ a n c, v = .slice a n c → n ≤ c) := hcap
  have HL : Hid (l.length ≤ 9223372036854775807) := hlen
  obtain ⟨X, hX⟩ : ∃ X, X = x := ⟨_, rfl⟩
  have HX : Hid (X.val = .agg #[.int .i64 x.n, .int .i64 x.p.seq, .int .i64 x.p.time, .bool x.p.f, .bool x.p.e, .bool x.p.k, .string x.p.t]) := by rw [hX]; rfl
  clear hv hn hlen hX hcap
  -- what the calls answer
  obtain ⟨E, hE⟩ : ∃ E, E = putE next l X := ⟨_, rfl⟩
  obtain ⟨V, hV⟩ : ∃ V, V = bchk next l := ⟨_, rfl⟩
  obtain ⟨PR, hPR⟩ : ∃ PR, PR = putR next l X := ⟨_, rfl⟩
  obtain ⟨FR, hFR⟩ : ∃ FR, FR = flushR next l := ⟨_, rfl⟩
  have HP : Hid (∀ w' : World, Sls w' v l → Calls Try.prog 13 #[.agg #[.int .i64 next, v], .agg #[.int .i64 x.n, .int .i64 x.p.seq, .int .i64 x.p.time, .bool x.p.f, .bool x.p.e, .bool x.p.k, .string x.p.t]] w' fun e w'' => ∃ hv' ov', e = .returned (.tuple #[.agg #[.int .i64 PR.1, hv'], ov', .int .i64 E]) ∧
      Fresh w'.heap.size w'' hv' PR.2.1 ∧ Fresh w'.heap.size w'' ov' PR.2.2 ∧ Below w'.heap.size w' w'') := fun w' hs => by
    rw [← HX.out, hPR, hE]; exact bufPut_any next v l X w' hs HL.out
  have HF : Hid (∀ w' : World, Sls w' v l → Calls Try.prog 14 #[.agg #[.int .i64 next, v]] w' fun e w'' => ∃ hv' ov', e = .returned (.tuple #[.agg #[.int .i64 FR.1, hv'], ov', .int .i64 V]) ∧
      Fresh w'.heap.size w'' hv' FR.2.1 ∧ Fresh w'.heap.size w'' ov' FR.2.2 ∧ Below w'.heap.size w' w'') := fun w' hs => by
    rw [hFR, hV]; exact bufFlush_any next v l w' hs HL.out
  have HCB : Hid (∀ w' : World, Sls w' v l → Calls Try.prog 15 #[.agg #[.int .i64 next, v]] w' fun e w'' => e = .returned (.int .i64 V) ∧ Below w'.heap.size w' w'') := fun w' hs => by
    rw [hV]; exact refCheckBuffer_any next v l w' hs HL.out
  have HPC : Hid (∀ w' : World, Sls w' v l → Calls Try.prog 20 #[.agg #[.int .i64 next, v]] w' fun e w'' => e = .returned (.int .i64 V) ∧ Below w'.heap.size w' w'') := fun w' hs => by
    rw [hV]; exact bufCheck_any next v l w' hs HL.out
  have HCS : Hid (∀ w' : World, Calls Try.prog 16 #[.agg #[.int .i64 x.n, .int .i64 x.p.seq, .int .i64 x.p.time, .bool x.p.f, .bool x.p.e, .bool x.p.k, .string x.p.t]] w' fun e w'' => e = .returned (.int .i64 X.chk) ∧ Below w'.heap.size w' w'') := fun w' => by
    rw [← HX.out]; exact refSlot_any X w'
  have HVE : Hid (¬ V = 0 → E = V ∧ PR = (0, [], []) ∧ FR = (0, [], [])) := fun h => by
    have hp : ¬ pchk next l = 0 := by unfold pchk; rw [← hV]; exact h
    have he : putE next l X = V := by unfold putE; rw [if_neg hp]; unfold pchk; exact hV.symm
    refine ⟨hE.trans he, ?_, ?_⟩
    · rw [hPR]; unfold putR; rw [if_neg (by rw [he]; exact h)]
    · rw [hFR]; unfold flushR; rw [if_neg hp]
  have HV0 : Hid (V = 0 → E = X.chk ∧ Right next l ∧ FR = relF 0 next l []) := fun h => by
    have hp : pchk next l = 0 := by unfold pchk; rw [← hV]; exact h
    exact ⟨by rw [hE]; unfold putE; rw [if_pos hp], (bchk_right next l).1 hp, by rw [hFR]; unfold flushR; rw [if_pos hp]⟩
  have HE0 : Hid (E = 0 → PR = putF next l X) := fun h => by rw [hPR]; unfold putR; rw [if_pos (by rw [← hE]; exact h)]
  have HE1 : Hid (¬ E = 0 → PR = (0, [], [])) := fun h => by rw [hPR]; unfold putR; rw [if_neg (by rw [← hE]; exact h)]
  clear hE hV hPR hFR
  obtain ⟨xc, hxc⟩ : ∃ xc, xc = X.chk := ⟨_, rfl⟩
  have HXC : Hid (xc = X.chk) := hxc
  rw [← hxc] at HCS
  clear hxc
  subst hva
  simp only [Sk.val]
  go_enter Try.func4, Try.ntmps4
  go_wp2_with fail
  refine (HP.out _ ((HV.out.alloc _).alloc _)).mono ?_
  rintro e w1 ⟨hv1, ov1, rfl, F1, O1, hb1⟩
  obtain ⟨k0, k1, bw1, hs1⟩ := blocks2 hb1
  have S1 : Hid (Sls w1 (.slice a n c) l) := ((HV.out.alloc _).alloc _).below hb1
  have K0 : Hid (Blk w1 w.heap.size #[.int .i64 next, .slice a n c] 31) := k0
  have K1 : Hid (Blk w1 (w.heap.size + 1) #[.int .i64 x.n, .int .i64 x.p.seq, .int .i64 x.p.time, .bool x.p.f, .bool x.p.e, .bool x.p.k, .string x.p.t] 35) := k1
  have B1 : Hid (Below w.heap.size w w1) := bw1
  obtain ⟨a1, c1, e1⟩ := F1.1.len
  obtain ⟨a1', c1', e1'⟩ := O1.1.len
  have P1 : Hid (Sls w1 hv1 PR.2.1) := F1.1
  have Q1 : Hid (Sls w1 ov1 PR.2.2) := O1.1
  obtain ⟨p1, hp1⟩ : ∃ p1, p1 = PR.2.1.length := ⟨_, rfl⟩
  obtain ⟨p2, hp2⟩ : ∃ p2, p2 = PR.2.2.length := ⟨_, rfl⟩
  obtain ⟨r1, hr1⟩ : ∃ r1, r1 = PR.1 := ⟨_, rfl⟩
  rw [← hp1] at e1
  rw [← hp2] at e1'
  have HR1 : Hid (r1 = PR.1) := hr1
  rw [← hr1]
  obtain ⟨f0, f1⟩ := k0.two
  have lt1 : w.heap.size < w1.heap.size := by omega
  clear hb1 k0 k1 bw1 F1 O1 hp1 hp2 hr1
  subst e1 e1'
  go_wp2_with fail
  refine (HF.out _ (S1.out.alloc _)).mono ?_
  rintro e w2 ⟨hv2, ov2, rfl, F2, O2, hb2⟩
  have b12 : Hid (Below w1.heap.size w1 w2) := ((Below.refl _ w1).alloc (Nat.le_refl _) _).trans (hb2.mono (by simp))
  have KP2 : Hid (Blk w2 w1.heap.size #[.int .i64 r1, .slice a1 p1 c1] 31) := Blk.below (Blk.new w1 _ _) hb2 (by simp)
  have K02 : Hid (Blk w2 w.heap.size #[.int .i64 next, .slice a n c] 31) := K0.out.below b12.out K0.out.lt
  have K12 : Hid (Blk w2 (w.heap.size + 1) #[.int .i64 x.n, .int .i64 x.p.seq, .int .i64 x.p.time, .bool x.p.f, .bool x.p.e, .bool x.p.k, .string x.p.t] 35) := K1.out.below b12.out K1.out.lt
  have S2 : Hid (Sls w2 (.slice a n c) l) := S1.out.below b12.out
  have P2 : Hid (Sls w2 (.slice a1 p1 c1) PR.2.1) := P1.out.below b12.out
  have Q2 : Hid (Sls w2 (.slice a1' p2 c1') PR.2.2) := Q1.out.below b12.out
  have B2 : Hid (Below w.heap.size w w2) := B1.out.trans (b12.out.mono B1.out.size)
  obtain ⟨a2, c2, e2⟩ := F2.1.len
  obtain ⟨a2', c2', e2'⟩ := O2.1.len
  have X2 : Hid (Sls w2 hv2 FR.2.1) := F2.1
  have Y2 : Hid (Sls w2 ov2 FR.2.2) := O2.1
  obtain ⟨q1, hq1⟩ : ∃ q1, q1 = FR.2.1.length := ⟨_, rfl⟩
  obtain ⟨q2, hq2⟩ : ∃ q2, q2 = FR.2.2.length := ⟨_, rfl⟩
  obtain ⟨r2, hr2⟩ : ∃ r2, r2 = FR.1 := ⟨_, rfl⟩
  rw [← hq1] at e2
  rw [← hq2] at e2'
  have HR2 : Hid (r2 = FR.1) := hr2
  rw [← hr2]
  obtain ⟨f0', f1'⟩ := Blk.two K02.out
  have lt2 := Blk.lt K12.out
  have lt2' : w.heap.size < w2.heap.size := by omega
  have lt3' := Blk.lt KP2.out
  clear hb2 b12 F2 O2 hq1 hq2 hr2 f0 f1 K0 K1 S1 P1 Q1 B1 HP HF
  subst e2 e2'
  go_wp2_with fail
  refine (HCB.out _ (S2.out.alloc _)).mono ?_
  rintro e w3 ⟨rfl, hb3⟩
  have b23 : Hid (Below w2.heap.size w2 w3) := ((Below.refl _ w2).alloc (Nat.le_refl _) _).trans (hb3.mono (by simp))
  have KF3 : Hid (Blk w3 w2.heap.size #[.int .i64 r2, .slice a2 q1 c2] 31) := Blk.below (Blk.new w2 _ _) hb3 (by simp)
  have KP3 : Hid (Blk w3 w1.heap.size #[.int .i64 r1, .slice a1 p1 c1] 31) := KP2.out.below b23.out KP2.out.lt
  have K03 : Hid (Blk w3 w.heap.size #[.int .i64 next, .slice a n c] 31) := K02.out.below b23.out K02.out.lt
  have K13 : Hid (Blk w3 (w.heap.size + 1) #[.int .i64 x.n, .int .i64 x.p.seq, .int .i64 x.p.time, .bool x.p.f, .bool x.p.e, .bool x.p.k, .string x.p.t] 35) := K12.out.below b23.out K12.out.lt
  have S3 : Hid (Sls w3 (.slice a n c) l) := S2.out.below b23.out
  have P3 : Hid (Sls w3 (.slice a1 p1 c1) PR.2.1) := P2.out.below b23.out
  have Q3 : Hid (Sls w3 (.slice a1' p2 c1') PR.2.2) := Q2.out.below b23.out
  have X3 : Hid (Sls w3 (.slice a2 q1 c2) FR.2.1) := X2.out.below b23.out
  have Y3 : Hid (Sls w3 (.slice a2' q2 c2') FR.2.2) := Y2.out.below b23.out
  have B3 : Hid (Below w.heap.size w w3) := B2.out.trans (b23.out.mono B2.out.size)
  obtain ⟨y0, y1, y2, y3, y4, y5, y6⟩ := Blk.seven K13.out
  clear hb3 b23 K02 K12 S2 P2 Q2 X2 Y2 B2 KP2 f0' f1' HCB
  -- the end, whatever was handed on
  have FIN : Hid (∀ (W : World) (z1 z2 z3 z4 : Value) (m1 m2 : Int) (g1 g2 g3 g4 : List Sk), Below w3.heap.size w3 W → Sls W z1 g1 → Sls W z2 g2 → Sls W z3 g3 → Sls W z4 g4 →
      (E = 0 ∧ r1 = m1 ∧ PR.2.1 = g1 ∧ PR.2.2 = g2 ∨ ¬ E = 0 ∧ r1 = 0 ∧ PR.2.1 = [] ∧ PR.2.2 = []) → (V = 0 ∧ r2 = m2 ∧ FR.2.1 = g3 ∧ FR.2.2 = g4 ∨ ¬ V = 0 ∧ r2 = 0 ∧ FR.2.1 = [] ∧ FR.2.2 = []) →
      (∀ U : World, Below W.heap.size W U → Calls Try.prog 21 #[.agg #[.int .i64 r1, .slice a1 p1 c1], .slice a1' p2 c1', .int .i64 E, .int .i64 E, .agg #[.int .i64 m1, z1], z2] U fun r U' => r = .returned (.bool true) ∧ Below U.heap.size U U') ∧
      (∀ U : World, Below W.heap.size W U → Calls Try.prog 21 #[.agg #[.int .i64 r2, .slice a2 q1 c2], .slice a2' q2 c2', .int .i64 V, .int .i64 V, .agg #[.int .i64 m2, z3], z4] U fun r U' => r = .returned (.bool true) ∧ Below U.heap.size U U')) := by
    intro W z1 z2 z3 z4 m1 m2 g1 g2 g3 g4 hW h1 h2 h3 h4 hd1 hd2
    have hlp : PR.2.1.length ≤ 1000 ∧ PR.2.2.length ≤ 1000 := by
      by_cases he : E = 0
      · by_cases hv0 : V = 0
        · obtain ⟨t1, t2, _⟩ := HV0.out hv0
          rw [HE0.out he]
          exact putF_len t2
        · exact absurd ((HVE.out hv0).1 ▸ he) hv0
      · rw [HE1.out he]; simp
    have hlf : FR.2.1.length ≤ 1000 ∧ FR.2.2.length ≤ 1000 := by
      by_cases hv0 : V = 0
      · obtain ⟨_, t2, t3⟩ := HV0.out hv0
        rw [t3]; exact flushF_len t2
      · rw [(HVE.out hv0).2.2]; simp
    refine ⟨fun U hU => ?_, fun U hU => ?_⟩
    · have hU3 := Below.on hW hU
      exact bufferIs_true r1 m1 E _ _ _ _ PR.2.1 PR.2.2 g1 g2 U (P3.out.below hU3) (Q3.out.below hU3) (h1.below hU) (h2.below hU) hlp.1 hlp.2 hd1
    · have hU3 := Below.on hW hU
      exact bufferIs_true r2 m2 V _ _ _ _ FR.2.1 FR.2.2 g3 g4 U (X3.out.below hU3) (Y3.out.below hU3) (h3.below hU) (h4.below hU) hlf.1 hlf.2 hd2
  by_cases hV0 : V = 0
  · obtain ⟨t1, t2, t3⟩ := HV0.out hV0
    have HRI : Hid (Right next l) := t2
    have HEX : Hid (E = xc) := t1.trans HXC.out.symm
    have HFR : Hid (FR = relF 0 next l []) := t3
    have hn0 : 0 ≤ next ∧ next ≤ 1000000001 := by rcases t2.1 with ⟨h, _⟩ | h <;> omega
    have HFO : Hid (∀ w' : World, Sls w' (.slice a n c) l → Calls Try.prog 18 #[.agg #[.int .i64 next, .slice a n c]] w' fun e w'' => ∃ hv' ov', e = .returned (.tuple #[.agg #[.int .i64 r2, hv'], ov']) ∧
        Sls w'' hv' FR.2.1 ∧ Sls w'' ov' FR.2.2 ∧ Below w'.heap.size w' w'' ∧ (0 < FR.2.1.length → ∀ g, hv'.ownBlock = some g → (Value.slice a n c).ownBlock = some g ∨ w'.heap.size ≤ g) ∧ (∀ g, ov'.ownBlock = some g → w'.heap.size ≤ g)) := fun w' hs => by
      rw [HR2.out, t3]
      exact flushOf_any next (.slice a n c) l w' hs HCAP.out (fun y hy => by have := Sk.chk_zero (t2.2.2.1 y hy); omega) hn0 (by have := t2.2.1; omega)
    have HLT : Hid (0 < l.length → ∀ g, (Value.slice a n c).ownBlock = some g → g < w.heap.size) := HV.out.blk
    have HFL : Hid (0 < FR.2.1.length → 0 < l.length) := fun h => by have := (relF_lens 0 l next []).1; rw [t3] at h; omega
    clear t1 t2 t3 hn0
    subst hV0
    go_wp2_with fail
    refine (HCS.out _).mono ?_
    rintro e w4 ⟨rfl, hb4⟩
    have K04 : Hid (Blk w4 w.heap.size #[.int .i64 next, .slice a n c] 31) := K03.out.below hb4 K03.out.lt
    have K14 : Hid (Blk w4 (w.heap.size + 1) #[.int .i64 x.n, .int .i64 x.p.seq, .int .i64 x.p.time, .bool x.p.f, .bool x.p.e, .bool x.p.k, .string x.p.t] 35) := K13.out.below hb4 K13.out.lt
    have KF4 : Hid (Blk w4 w2.heap.size #[.int .i64 r2, .slice a2 q1 c2] 31) := KF3.out.below hb4 KF3.out.lt
    have KP4 : Hid (Blk w4 w1.heap.size #[.int .i64 r1, .slice a1 p1 c1] 31) := KP3.out.below hb4 KP3.out.lt
    have S4 : Hid (Sls w4 (.slice a n c) l) := S3.out.below hb4
    have B34 : Hid (Below w3.heap.size w3 w4) := hb4
    have B4 : Hid (Below w.heap.size w w4) := B3.out.trans (hb4.mono B3.out.size)
    obtain ⟨f0, f1⟩ := Blk.two K04.out
    obtain ⟨x0, x1, x2, x3, x4, x5, x6⟩ := Blk.seven K14.out
    have lt4 := Blk.lt K14.out
    have lt4' : w.heap.size < w4.heap.size := by omega
    have lt4a := Blk.lt KF4.out
    have lt4b := Blk.lt KP4.out
    clear hb4 y0 y1 y2 y3 y4 y5 y6 K03 K13 KF3 KP3 S3
    by_cases hx0 : xc = 0
    · have HE : Hid (E = 0) := HEX.out.trans hx0
      have HPF : Hid (PR = putF next l X) := HE0.out HE.out
      have HXK : Hid (X.chk = 0) := HXC.out.symm.trans hx0
      subst hx0
      go_wp2_with fail
      have hput := putOf_any next (.slice a n c) l X ((w4.alloc (.cells #[.int .i64 0, .slice none 0 0] 31)).alloc (.cells #[.int .i64 0, .slice none 0 0] 31)) ((S4.out.alloc _).alloc _) HRI.out HXK.out
      rw [← HPF.out, HX.out, ← HR1.out] at hput
      refine hput.mono ?_
      rintro e w5 ⟨hv5, ov5, rfl, s5, t5, hb5, fr5, fo5⟩
      obtain ⟨kp5, kf5, bb5, hs5⟩ := blocks2 hb5
      obtain ⟨a5, c5, e5⟩ := s5.len
      obtain ⟨a5', c5', e5'⟩ := t5.len
      obtain ⟨m1, hm1⟩ : ∃ m1, m1 = PR.2.1.length := ⟨_, rfl⟩
      obtain ⟨m2, hm2⟩ : ∃ m2, m2 = PR.2.2.length := ⟨_, rfl⟩
      rw [← hm1] at e5
      rw [← hm2] at e5'
      subst e5 e5'
      have U5 : Hid (∀ U : World, Hid (U = (w5.setCell ⟨w4.heap.size, 0, none⟩ (.int .i64 r1)).setCell ⟨w4.heap.size, 1, none⟩ (.slice a5 m1 c5)) →
          Below w4.heap.size w4 U ∧ Blk U w4.heap.size #[.int .i64 r1, .slice a5 m1 c5] 31 ∧ Blk U (w4.heap.size + 1) #[.int .i64 0, .slice none 0 0] 31 ∧ Sls U (.slice a5 m1 c5) PR.2.1 ∧ Sls U (.slice a5' m2 c5') PR.2.2 ∧ w4.heap.size + 1 + 1 ≤ U.heap.size ∧
          (0 < PR.2.1.length → ∀ g, (Value.slice a5 m1 c5).ownBlock = some g → ¬ g = w4.heap.size + 1) ∧ (∀ g, (Value.slice a5' m2 c5').ownBlock = some g → ¬ g = w4.heap.size + 1)) := fun U hU => by
        have hblk : ∀ j, j ≠ w4.heap.size → U.heap[j]? = w5.heap[j]? := fun j hj => by rw [hU.out, Below.heap_setCell _ _ _ _ (by exact hj), Below.heap_setCell _ _ _ _ (by exact hj)]
        have hsz : U.heap.size = w5.heap.size := by rw [hU.out]; simp
        have q1 : 0 < PR.2.1.length → ∀ g, (Value.slice a5 m1 c5).ownBlock = some g → g < w4.heap.size ∨ w4.heap.size + 1 < g := fun h0 g hg => by
          rcases fr5 h0 g hg with h | h
          · have h3 : g < w.heap.size := HLT.out h.2 g h.1
            omega
          · simp at h; omega
        have q2 : ∀ g, (Value.slice a5' m2 c5').ownBlock = some g → w4.heap.size + 1 < g := fun g hg => by
          have := fo5 g hg
          simp at this; omega
        refine ⟨by rw [hU.out]; exact (bb5.setCell (by simp) _).setCell (by simp) _, by rw [hU.out]; exact (kp5.set 0 _).set 1 _, (hblk _ (by omega)).trans kf5, s5.same (by omega) (fun h0 g hg => hblk g (by have := q1 h0 g hg; omega)), t5.same (by omega) (fun _ g hg => hblk g (by have := q2 g hg; omega)), by omega, fun h0 g hg => by have := q1 h0 g hg; omega, fun g hg => by have := q2 g hg; omega⟩
      obtain ⟨g0, g1⟩ := kp5.two
      have gf := kp5.free
      obtain ⟨z0, z1⟩ := (K04.out.below bb5 K04.out.lt).two
      clear hb5 kp5 kf5 bb5 fr5 fo5 s5 t5 hput hm1 hm2
      go_wp2_with fail
      obtain ⟨W5, hW5⟩ : ∃ W5, W5 = (w5.setCell ⟨w4.heap.size, 0, none⟩ (.int .i64 r1)).setCell ⟨w4.heap.size, 1, none⟩ (.slice a5 m1 c5) := ⟨_, rfl⟩
      obtain ⟨bb5, kp5, kf5, s5, t5, hs5', n1, n2⟩ := U5.out W5 hW5
      rw [← hW5]
      have B45 : Hid (Below w4.heap.size w4 W5) := bb5
      have KP5 : Hid (Blk W5 w4.heap.size #[.int .i64 r1, .slice a5 m1 c5] 31) := kp5
      have KF5 : Hid (Blk W5 (w4.heap.size + 1) #[.int .i64 0, .slice none 0 0] 31) := kf5
      have SP5 : Hid (Sls W5 (.slice a5 m1 c5) PR.2.1) := s5
      have TP5 : Hid (Sls W5 (.slice a5' m2 c5') PR.2.2) := t5
      have N1 : Hid (0 < PR.2.1.length → ∀ g, (Value.slice a5 m1 c5).ownBlock = some g → ¬ g = w4.heap.size + 1) := n1
      have N2 : Hid (∀ g, (Value.slice a5' m2 c5').ownBlock = some g → ¬ g = w4.heap.size + 1) := n2
      clear hW5 bb5 kp5 kf5 s5 t5 g0 g1 gf z0 z1 U5 f0 f1 x0 x1 x2 x3 x4 x5 x6 n1 n2
      refine (HFO.out _ (S4.out.below B45.out)).mono ?_
      rintro e w6 ⟨hv6, ov6, rfl, s6, t6, hb6, fr6, fo6⟩
      obtain ⟨a6, c6, e6⟩ := s6.len
      obtain ⟨a6', c6', e6'⟩ := t6.len
      obtain ⟨m3, hm3⟩ : ∃ m3, m3 = FR.2.1.length := ⟨_, rfl⟩
      obtain ⟨m4, hm4⟩ : ∃ m4, m4 = FR.2.2.length := ⟨_, rfl⟩
      rw [← hm3] at e6
      rw [← hm4] at e6'
      subst e6 e6'
      have kf6 := KF5.out.below hb6 KF5.out.lt
      have U6 : Hid (∀ U : World, Hid (U = (w6.setCell ⟨w4.heap.size + 1, 0, none⟩ (.int .i64 r2)).setCell ⟨w4.heap.size + 1, 1, none⟩ (.slice a6 m3 c6)) →
          Below w4.heap.size w4 U ∧ Blk U w4.heap.size #[.int .i64 r1, .slice a5 m1 c5] 31 ∧ Blk U (w4.heap.size + 1) #[.int .i64 r2, .slice a6 m3 c6] 31 ∧ Sls U (.slice a5 m1 c5) PR.2.1 ∧ Sls U (.slice a5' m2 c5') PR.2.2 ∧ Sls U (.slice a6 m3 c6) FR.2.1 ∧ Sls U (.slice a6' m4 c6') FR.2.2) := fun U hU => by
        have hblk : ∀ j, ¬ j = w4.heap.size + 1 → U.heap[j]? = w6.heap[j]? := fun j hj => by rw [hU.out, Below.heap_setCell _ _ _ _ (by exact hj), Below.heap_setCell _ _ _ _ (by exact hj)]
        have hsz : U.heap.size = w6.heap.size := by rw [hU.out]; simp
        have hs6 := hb6.size
        refine ⟨by rw [hU.out]; exact ((B45.out.trans (hb6.mono B45.out.size)).setCell (by simp) _).setCell (by simp) _, (hblk _ (by omega)).trans (KP5.out.below hb6 KP5.out.lt), by rw [hU.out]; exact (kf6.set 0 _).set 1 _, (SP5.out.below hb6).same (by omega) (fun h0 g hg => hblk g (N1.out h0 g hg)), (TP5.out.below hb6).same (by omega) (fun _ g hg => hblk g (N2.out g hg)), s6.same (by omega) (fun h0 g hg => hblk g ?_), t6.same (by omega) (fun _ g hg => hblk g (by have := fo6 g hg; omega))⟩
        rcases fr6 h0 g hg with h | h
        · have h3 : g < w.heap.size := HLT.out (HFL.out h0) g h
          omega
        · omega
      obtain ⟨g0, g1⟩ := kf6.two
      have gf := kf6.free
      clear hb6 kf6 fr6 fo6 s6 t6 hm3 hm4 SP5 TP5 N1 N2 B45 KP5 KF5
      go_wp2_with fail
      obtain ⟨W6, hW6⟩ : ∃ W6, W6 = (w6.setCell ⟨w4.heap.size + 1, 0, none⟩ (.int .i64 r2)).setCell ⟨w4.heap.size + 1, 1, none⟩ (.slice a6 m3 c6) := ⟨_, rfl⟩
      obtain ⟨bb6, ka6, kb6, s1, s2, s3, s4⟩ := U6.out W6 hW6
      rw [← hW6]
      have TKA : Hid (Blk W6 w4.heap.size #[.int .i64 r1, .slice a5 m1 c5] 31) := ka6
      have TKB : Hid (Blk W6 (w4.heap.size + 1) #[.int .i64 r2, .slice a6 m3 c6] 31) := kb6
      have TKP : Hid (Blk W6 w1.heap.size #[.int .i64 r1, .slice a1 p1 c1] 31) := KP4.out.below bb6 KP4.out.lt
      have TKF : Hid (Blk W6 w2.heap.size #[.int .i64 r2, .slice a2 q1 c2] 31) := KF4.out.below bb6 KF4.out.lt
      have TK0 : Hid (Blk W6 w.heap.size #[.int .i64 next, .slice a n c] 31) := K04.out.below bb6 K04.out.lt
      have TS : Hid (Sls W6 (.slice a n c) l) := S4.out.below bb6
      have TB : Hid (Below w.heap.size w W6) := B4.out.trans (bb6.mono B4.out.size)
      have hfin := FIN.out W6 (.slice a5 m1 c5) (.slice a5' m2 c5') (.slice a6 m3 c6) (.slice a6' m4 c6') r1 r2 PR.2.1 PR.2.2 FR.2.1 FR.2.2 (Below.on B34.out bb6) s1 s2 s3 s4 (by simp [HE.out]) (by simp)
      rw [HE.out] at hfin
      have T12 : Hid ((∀ U : World, Below W6.heap.size W6 U → Calls Try.prog 21 #[.agg #[.int .i64 r1, .slice a1 p1 c1], .slice a1' p2 c1', .int .i64 0, .int .i64 0, .agg #[.int .i64 r1, .slice a5 m1 c5], .slice a5' m2 c5'] U fun r U' => r = .returned (.bool true) ∧ Below U.heap.size U U') ∧
        (∀ U : World, Below W6.heap.size W6 U → Calls Try.prog 21 #[.agg #[.int .i64 r2, .slice a2 q1 c2], .slice a2' q2 c2', .int .i64 0, .int .i64 0, .agg #[.int .i64 r2, .slice a6 m3 c6], .slice a6' m4 c6'] U fun r U' => r = .returned (.bool true) ∧ Below U.heap.size U U')) := hfin
      rw [HE.out]
      clear hW6 bb6 ka6 kb6 s1 s2 s3 s4 U6 g0 g1 gf hfin
      go_wp2_with fail
      refine (bufferBegun_any _).mono ?_
      rintro e w7 ⟨rfl, hb7⟩
      have S7 : Hid (Sls w7 (.slice a n c) l) := TS.out.below hb7
      have B67 : Hid (Below W6.heap.size W6 w7) := hb7
      obtain ⟨d0, d1⟩ := Blk.two (TK0.out.below hb7 TK0.out.lt)
      clear hb7
      go_wp2_with fail
      refine (HPC.out _ S7.out).mono ?_
      rintro e w8 ⟨rfl, hb8⟩
      have B68 : Hid (Below W6.heap.size W6 w8) := Below.on B67.out hb8
      clear hb8 B67 d0 d1 S7
      obtain ⟨d0, d1⟩ := Blk.two (TKP.out.below B68.out TKP.out.lt)
      obtain ⟨d2, d3⟩ := Blk.two (TKA.out.below B68.out TKA.out.lt)
      go_wp2_with fail
      refine (T12.out.1 _ B68.out).mono ?_
      rintro e w9 ⟨rfl, hb9⟩
      have B69 : Hid (Below W6.heap.size W6 w9) := Below.on B68.out hb9
      clear hb9 B68 d0 d1 d2 d3
      obtain ⟨d0, d1⟩ := Blk.two (TKF.out.below B69.out TKF.out.lt)
      obtain ⟨d2, d3⟩ := Blk.two (TKB.out.below B69.out TKB.out.lt)
      go_wp2_with fail
      refine (T12.out.2 _ B69.out).mono ?_
      rintro e w10 ⟨rfl, hb10⟩
      have B610 : Hid (Below w.heap.size w w10) := TB.out.trans ((Below.on B69.out hb10).mono TB.out.size)
      clear hb10 d0 d1 d2 d3
      go_wp2
      go_ret
      exact ⟨rfl, B610.out⟩
    · have HPZ : Hid (PR = (0, [], [])) := HE1.out (by rw [HEX.out]; exact hx0)
      have HR10 : Hid (r1 = 0) := by show _ = _; rw [HR1.out, HPZ.out]
      go_wp2_with fail
      refine (HFO.out _ ((S4.out.alloc _).alloc _)).mono ?_
      rintro e w6 ⟨hv6, ov6, rfl, s6, t6, hb6, fr6, fo6⟩
      obtain ⟨kp6, kf6, bb6', hs6⟩ := blocks2 hb6
      obtain ⟨a6, c6, e6⟩ := s6.len
      obtain ⟨a6', c6', e6'⟩ := t6.len
      obtain ⟨m3, hm3⟩ : ∃ m3, m3 = FR.2.1.length := ⟨_, rfl⟩
      obtain ⟨m4, hm4⟩ : ∃ m4, m4 = FR.2.2.length := ⟨_, rfl⟩
      rw [← hm3] at e6
      rw [← hm4] at e6'
      subst e6 e6'
      have U6 : Hid (∀ U : World, Hid (U = (w6.setCell ⟨w4.heap.size + 1, 0, none⟩ (.int .i64 r2)).setCell ⟨w4.heap.size + 1, 1, none⟩ (.slice a6 m3 c6)) →
          Below w4.heap.size w4 U ∧ Blk U w4.heap.size #[.int .i64 0, .slice none 0 0] 31 ∧ Blk U (w4.heap.size + 1) #[.int .i64 r2, .slice a6 m3 c6] 31 ∧ Sls U (.slice a6 m3 c6) FR.2.1 ∧ Sls U (.slice a6' m4 c6') FR.2.2) := fun U hU => by
        have hblk : ∀ j, ¬ j = w4.heap.size + 1 → U.heap[j]? = w6.heap[j]? := fun j hj => by rw [hU.out, Below.heap_setCell _ _ _ _ (by exact hj), Below.heap_setCell _ _ _ _ (by exact hj)]
        have hsz : U.heap.size = w6.heap.size := by rw [hU.out]; simp
        refine ⟨by rw [hU.out]; exact (bb6'.setCell (by simp) _).setCell (by simp) _, (hblk _ (by omega)).trans kp6, by rw [hU.out]; exact (kf6.set 0 _).set 1 _, s6.same (by omega) (fun h0 g hg => hblk g ?_), t6.same (by omega) (fun _ g hg => hblk g (by have := fo6 g hg; simp at this; omega))⟩
        rcases fr6 h0 g hg with h | h
        · have h3 : g < w.heap.size := HLT.out (HFL.out h0) g h
          omega
        · simp at h; omega
      obtain ⟨g0, g1⟩ := kf6.two
      have gf := kf6.free
      clear hb6 kf6 kp6 fr6 fo6 s6 t6 hm3 hm4 f0 f1 x0 x1 x2 x3 x4 x5 x6 bb6'
      go_wp2_with fail
      obtain ⟨W6, hW6⟩ : ∃ W6, W6 = (w6.setCell ⟨w4.heap.size + 1, 0, none⟩ (.int .i64 r2)).setCell ⟨w4.heap.size + 1, 1, none⟩ (.slice a6 m3 c6) := ⟨_, rfl⟩
      obtain ⟨bb6, ka6, kb6, s3, s4⟩ := U6.out W6 hW6
      rw [← hW6]
      have TKA : Hid (Blk W6 w4.heap.size #[.int .i64 0, .slice none 0 0] 31) := ka6
      have TKB : Hid (Blk W6 (w4.heap.size + 1) #[.int .i64 r2, .slice a6 m3 c6] 31) := kb6
      have TKP : Hid (Blk W6 w1.heap.size #[.int .i64 r1, .slice a1 p1 c1] 31) := KP4.out.below bb6 KP4.out.lt
      have TKF : Hid (Blk W6 w2.heap.size #[.int .i64 r2, .slice a2 q1 c2] 31) := KF4.out.below bb6 KF4.out.lt
      have TK0 : Hid (Blk W6 w.heap.size #[.int .i64 next, .slice a n c] 31) := K04.out.below bb6 K04.out.lt
      have TS : Hid (Sls W6 (.slice a n c) l) := S4.out.below bb6
      have TB : Hid (Below w.heap.size w W6) := B4.out.trans (bb6.mono B4.out.size)
      have hfin := FIN.out W6 (.slice none 0 0) (.slice none 0 0) (.slice a6 m3 c6) (.slice a6' m4 c6') 0 r2 [] [] FR.2.1 FR.2.2 (Below.on B34.out bb6) (Sls.nil _) (Sls.nil _) s3 s4 (by simp [HR10.out, HPZ.out]; omega) (by simp)
      have hEE := HEX.out
      subst hEE
      have T12 : Hid ((∀ U : World, Below W6.heap.size W6 U → Calls Try.prog 21 #[.agg #[.int .i64 r1, .slice a1 p1 c1], .slice a1' p2 c1', .int .i64 E, .int .i64 E, .agg #[.int .i64 0, .slice none 0 0], .slice none 0 0] U fun r U' => r = .returned (.bool true) ∧ Below U.heap.size U U') ∧
        (∀ U : World, Below W6.heap.size W6 U → Calls Try.prog 21 #[.agg #[.int .i64 r2, .slice a2 q1 c2], .slice a2' q2 c2', .int .i64 0, .int .i64 0, .agg #[.int .i64 r2, .slice a6 m3 c6], .slice a6' m4 c6'] U fun r U' => r = .returned (.bool true) ∧ Below U.heap.size U U')) := hfin
      clear hW6 bb6 ka6 kb6 s3 s4 U6 g0 g1 gf hfin
      go_wp2_with fail
      refine (bufferBegun_any _).mono ?_
      rintro e w7 ⟨rfl, hb7⟩
      have S7 : Hid (Sls w7 (.slice a n c) l) := TS.out.below hb7
      have B67 : Hid (Below W6.heap.size W6 w7) := hb7
      obtain ⟨d0, d1⟩ := Blk.two (TK0.out.below hb7 TK0.out.lt)
      clear hb7
      go_wp2_with fail
      refine (HPC.out _ S7.out).mono ?_
      rintro e w8 ⟨rfl, hb8⟩
      have B68 : Hid (Below W6.heap.size W6 w8) := Below.on B67.out hb8
      clear hb8 B67 d0 d1 S7
      obtain ⟨d0, d1⟩ := Blk.two (TKP.out.below B68.out TKP.out.lt)
      obtain ⟨d2, d3⟩ := Blk.two (TKA.out.below B68.out TKA.out.lt)
      go_wp2_with fail
      refine (T12.out.1 _ B68.out).mono ?_
      rintro e w9 ⟨rfl, hb9⟩
      have B69 : Hid (Below W6.heap.size W6 w9) := Below.on B68.out hb9
      clear hb9 B68 d0 d1 d2 d3
      obtain ⟨d0, d1⟩ := Blk.two (TKF.out.below B69.out TKF.out.lt)
      obtain ⟨d2, d3⟩ := Blk.two (TKB.out.below B69.out TKB.out.lt)
      go_wp2_with fail
      refine (T12.out.2 _ B69.out).mono ?_
      rintro e w10 ⟨rfl, hb10⟩
      have B610 : Hid (Below w.heap.size w w10) := TB.out.trans ((Below.on B69.out hb10).mono TB.out.size)
      clear hb10 d0 d1 d2 d3
      go_wp2
      go_ret
      exact ⟨rfl, B610.out⟩
  · obtain ⟨t1, t2, t3⟩ := HVE.out hV0
    have HR10 : Hid (r1 = 0) := by show _ = _; rw [HR1.out, t2]
    have HR20 : Hid (r2 = 0) := by show _ = _; rw [HR2.out, t3]
    have HPZ : Hid (PR = (0, [], [])) := t2
    have HFZ : Hid (FR = (0, [], [])) := t3
    subst t1
    clear t2 t3
    obtain ⟨W6, hW6⟩ : ∃ W6, W6 = (w3.alloc (.cells #[.int .i64 0, .slice none 0 0] 31)).alloc (.cells #[.int .i64 0, .slice none 0 0] 31) := ⟨_, rfl⟩
    obtain ⟨ka6, kb6, bb6, hs6⟩ := blocks2 (w := w3) (w1 := W6) (by rw [hW6]; exact Below.refl _ _)
    have TKA : Hid (Blk W6 w3.heap.size #[.int .i64 0, .slice none 0 0] 31) := ka6
    have TKB : Hid (Blk W6 (w3.heap.size + 1) #[.int .i64 0, .slice none 0 0] 31) := kb6
    have TKP : Hid (Blk W6 w1.heap.size #[.int .i64 r1, .slice a1 p1 c1] 31) := KP3.out.below bb6 KP3.out.lt
    have TKF : Hid (Blk W6 w2.heap.size #[.int .i64 r2, .slice a2 q1 c2] 31) := KF3.out.below bb6 KF3.out.lt
    have TK0 : Hid (Blk W6 w.heap.size #[.int .i64 next, .slice a n c] 31) := K03.out.below bb6 K03.out.lt
    have TS : Hid (Sls W6 (.slice a n c) l) := S3.out.below bb6
    have TB : Hid (Below w.heap.size w W6) := B3.out.trans (bb6.mono B3.out.size)
    have hfin := FIN.out W6 (.slice none 0 0) (.slice none 0 0) (.slice none 0 0) (.slice none 0 0) 0 0 [] [] [] [] bb6 (Sls.nil _) (Sls.nil _) (Sls.nil _) (Sls.nil _) (by simp [HR10.out, HPZ.out]; omega) (by simp [HR20.out, HFZ.out]; omega)
    have T12 : Hid ((∀ U : World, Below W6.heap.size W6 U → Calls Try.prog 21 #[.agg #[.int .i64 r1, .slice a1 p1 c1], .slice a1' p2 c1', .int .i64 E, .int .i64 E, .agg #[.int .i64 0, .slice none 0 0], .slice none 0 0] U fun r U' => r = .returned (.bool true) ∧ Below U.heap.size U U') ∧
      (∀ U : World, Below W6.heap.size W6 U → Calls Try.prog 21 #[.agg #[.int .i64 r2, .slice a2 q1 c2], .slice a2' q2 c2', .int .i64 E, .int .i64 E, .agg #[.int .i64 0, .slice none 0 0], .slice none 0 0] U fun r U' => r = .returned (.bool true) ∧ Below U.heap.size U U')) := hfin
    clear bb6 ka6 kb6 hfin y0 y1 y2 y3 y4 y5 y6
    go_wp2_with fail
    rw [← hW6]
    clear hW6
    refine (bufferBegun_any _).mono ?_
    rintro e w7 ⟨rfl, hb7⟩
    have S7 : Hid (Sls w7 (.slice a n c) l) := TS.out.below hb7
    have B67 : Hid (Below W6.heap.size W6 w7) := hb7
    obtain ⟨d0, d1⟩ := Blk.two (TK0.out.below hb7 TK0.out.lt)
    clear hb7
    go_wp2_with fail
    refine (HPC.out _ S7.out).mono ?_
    rintro e w8 ⟨rfl, hb8⟩
    have B68 : Hid (Below W6.heap.size W6 w8) := Below.on B67.out hb8
    clear hb8 B67 d0 d1 S7
    obtain ⟨d0, d1⟩ := Blk.two (TKP.out.below B68.out TKP.out.lt)
    obtain ⟨d2, d3⟩ := Blk.two (TKA.out.below B68.out TKA.out.lt)
    go_wp2_with fail
    refine (T12.out.1 _ B68.out).mono ?_
    rintro e w9 ⟨rfl, hb9⟩
    have B69 : Hid (Below W6.heap.size W6 w9) := Below.on B68.out hb9
    clear hb9 B68 d0 d1 d2 d3
    obtain ⟨d0, d1⟩ := Blk.two (TKF.out.below B69.out TKF.out.lt)
    obtain ⟨d2, d3⟩ := Blk.two (TKB.out.below B69.out TKB.out.lt)
    go_wp2_with fail
    refine (T12.out.2 _ B69.out).mono ?_
    rintro e w10 ⟨rfl, hb10⟩
    have B610 : Hid (Below w.heap.size w w10) := TB.out.trans ((Below.on B69.out hb10).mono TB.out.size)
    clear hb10 d0 d1 d2 d3
    go_wp2
    go_ret
    exact ⟨rfl, B610.out⟩

end Go.Proofs.Ytanefofheeecdab
