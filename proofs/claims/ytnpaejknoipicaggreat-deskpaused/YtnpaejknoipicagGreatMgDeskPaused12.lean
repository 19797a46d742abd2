/-
 Contract: switchbacklaw.trackBegun (its regions 2 and 3 by program: reg/trackbegun.py).
-/
import Derived.Test.YtnpaejknoipicagGreatMgDeskPaused11
import Derived.Test.YtnpaejknoipicagGreatMgDeskPaused8
import Derived.Test.YtnpaejknoipicagGreatMgDeskPaused1
import Derived.Deep.QuietTactic
import Derived.Test.YtnpaejknoipicagGreatMgDeskPaused5
import Derived.Test.YtnpaejknoipicagGreatMgDeskPaused10
import Derived.Test.YtnpaejknoipicagGreatMgDeskPaused4
import Derived.Deep.DeepCutAuto
import Derived.Test.YtnpaejknoipicagGreatMgDeskPaused9
import Derived.BigQuiet
import Derived.Deep.RegionWith
import Derived.BigRegion
import Derived.Lib.QuietBelow
namespace Go.Proofs.YtnpaejknoipicagGreat
open Go.RowKit Go.Sort
set_option maxHeartbeats 8000000 in
set_option maxRecDepth 100000 in
theorem numberOf_any (S : Nat → Prop) (M : Nat) (t : Tr) (c : Int) (p : Pk) (w : World) (hT : TkB S M w t c) (hp : p.chk = 0) :
  Calls Tryz.prog 105 #[.pointer (some ⟨M, 0, none⟩), p.val] w fun e w' => e = .returned (.tuple #[.int .i64 (numN t.last p), .int .i64 (numE t.last p)]) ∧ Below w.heap.size w w' := by
 obtain ⟨hv, bv, gv, ov, hM, hr⟩ := hT
 obtain ⟨p1, p2, _⟩ := Pk.chk_ok hp
 have y0 : w.cell? ⟨M, 0, none⟩ = some (.int .i64 t.last) := hM.cell rfl
 have hMw := hM.lt
 obtain ⟨last, hlast⟩ : ∃ x, x = t.last := ⟨_, rfl⟩
 rw [← hlast] at y0 ⊢
 clear hlast hM hr hp
 obtain ⟨W, hW⟩ : ∃ W, W = w.alloc (.cells #[.int .i64 p.seq, .int .i64 p.time, .bool p.f, .bool p.e, .bool p.k, .string p.t] 63) := ⟨_, rfl⟩
 have HB : Hid (Below w.heap.size w W) := by rw [hW]; exact (Below.refl _ _).alloc (Nat.le_refl _) _
 simp only [Pk.val]
 go_enter Tryz.func105, Tryz.ntmps105
 by_cases h0 : last = 0
 ·have e1 : Hid (numN last p = p.seq + 65536 ∧ numE last p = 0) := by unfold numN numE; rw [if_pos h0, if_pos h0]; exact ⟨rfl, rfl⟩
  subst h0
  go_wp2
  rw [← hW]
  go_ret2
  rw [e1.out.1, e1.out.2]
  exact ⟨rfl, HB.out⟩
 ·have e1 : Hid (numN last p = Cn.uwN last p.seq ∧ numE last p = Cn.uwE last p.seq) := by unfold numN numE; rw [if_neg h0, if_neg h0]; exact ⟨rfl, rfl⟩
  have h0b : (last == 0) = false := by simpa using h0
  go_wp2_with fail
  go_quiet ((go_at_call 140; refine Calls.quiet_of_same ((unwrap_any _ _ _).mono fun e w9 h => ⟨h.1, h.2.symm⟩)))
  rw [← hW]
  go_wp2
  go_ret2
  rw [e1.out.1, e1.out.2]
  exact ⟨rfl, below_drewN HB.out _⟩
theorem Fresh.slsIn {base : Nat} {S : Nat → Prop} {w : World} {v : Value} {l : List Sk} (h : Fresh base w v l) (hl : l.length ≤ 9223372036854775807) (hS : ∀ g, base ≤ g → S g) : SlsIn S w v l := ⟨h.1, hl, fun g hg _ => ⟨hS g (h.2 g hg).1, (h.2 g hg).2⟩⟩
theorem rel_olen (most : Nat) : ∀ (h : List Sk) (next : Int) (o : List Sk), (relF most next h o).2.2.length ≤ h.length + o.length
 | [], next, o => by simp [relF]
 | x :: r, next, o => by
  simp only [relF]
  split
  ·have := rel_olen most r (next + 1) (o ++ [x]); simp at this ⊢; omega
  ·split
   ·simp
   ·have := rel_olen most r (x.n + 1) (o ++ [x]); simp at this ⊢; omega
theorem put_olen {next : Int} {l : List Sk} {x : Sk} (hR : Right next l) : (putF next l x).2.2.length ≤ 100 := by
 have h4 := hR.2.1
 have key : ∀ (n' : Int), (relF 4 n' (insF l x) []).2.2.length ≤ (insF l x).length + 0 := fun n' => rel_olen 4 (insF l x) n' []
 have hi : (insF l x).length = l.length + 1 := by
  unfold insF putAt
  rw [List.length_append, List.length_cons, List.length_take, List.length_drop]; omega
 unfold putF
 repeat' split
 all_goals first | (simp; done) | (refine Nat.le_trans (key _) ?_; omega)
theorem Blk.sixc {w : World} {b : Nat} {x0 x1 x2 x3 x4 x5 : Value} {t : TypeId} (h : Blk w b #[x0, x1, x2, x3, x4, x5] t) :
  w.cell? ⟨b, 0, none⟩ = some x0 ∧ w.cell? ⟨b, 1, none⟩ = some x1 ∧ w.cell? ⟨b, 2, none⟩ = some x2 ∧ w.cell? ⟨b, 3, none⟩ = some x3 ∧ w.cell? ⟨b, 4, none⟩ = some x4 ∧ w.cell? ⟨b, 5, none⟩ = some x5 :=
 ⟨h.cell rfl, h.cell rfl, h.cell rfl, h.cell rfl, h.cell rfl, h.cell rfl⟩
set_option maxHeartbeats 16000000 in
set_option maxRecDepth 100000 in
theorem tkFeed_any (S : Nat → Prop) (M : Nat) (t : Tr) (s : List UInt8) (w : World) (hT : TkB S M w t (0 : Nat)) (hcl : t.last = 0 ∨ Cn.isNB t.last = true) (hR : Right t.next t.h) (hok : TkOk t) (hS : ∀ g, w.heap.size ≤ g → S g) :
  Calls Tryz.prog 63 #[.pointer (some ⟨M, 0, none⟩), .string (ba s)] w fun e w' => e = .returned (.int .i64 (feedR t s).2.2) ∧ ((feedR t s).2.2 = 0 → TkB S M w' (feedR t s).1 ((feedR t s).2.1 : Nat)) ∧ Kept [M] w w' := by
 have hMw := hT.lt
 have HT : Hid (TkB S M w t (0 : Nat)) := hT
 obtain ⟨hv, bv, gv, ov, hM, hr⟩ := hT
 obtain ⟨ha, hc, ba', bc, ga, gc, oa, oc, eh, eb, eg, eo⟩ := hr.slices
 obtain ⟨p, hp⟩ : ∃ x, x = (Pk.dec s).1 := ⟨_, rfl⟩
 obtain ⟨D, hD⟩ : ∃ x, x = (Pk.dec s).2 := ⟨_, rfl⟩
 obtain ⟨n, hn⟩ : ∃ x, x = numN t.last p := ⟨_, rfl⟩
 obtain ⟨NE, hNE⟩ : ∃ x, x = numE t.last p := ⟨_, rfl⟩
 obtain ⟨last, hlast⟩ : ∃ x, x = t.last := ⟨_, rfl⟩
 obtain ⟨next, hnext⟩ : ∃ x, x = t.next := ⟨_, rfl⟩
 obtain ⟨first, hfirst⟩ : ∃ x, x = t.first := ⟨_, rfl⟩
 obtain ⟨R, hRR⟩ : ∃ x, x = feedP t n p := ⟨_, rfl⟩
 obtain ⟨F, hF⟩ : ∃ x, x = feedR t s := ⟨_, rfl⟩
 have HF1 : Hid (¬ D = 0 → F = (Tr.zero, 0, D)) := fun h => by rw [hF]; unfold feedR; rw [← hD, if_neg h]
 have HF2 : Hid (D = 0 → ¬ NE = 0 → F = (Tr.zero, 0, NE)) := fun h h2 => by rw [hF]; unfold feedR; rw [← hD, if_pos h, ← hp, ← hNE, if_neg h2]
 have HF3 : Hid (D = 0 → NE = 0 → F = R) := fun h h2 => by rw [hF]; unfold feedR; rw [← hD, if_pos h, ← hp, ← hNE, if_pos h2, ← hn, ← hRR]
 have HPC : Hid (D = 0 → p.chk = 0) := fun h => by
  rcases Pk.dec_or s with ⟨_, h2⟩ | ⟨_, h2, _⟩
  ·rw [← hD, h] at h2; cases h2
  ·rw [hp]; exact h2
 have HDEC : Hid (Calls Tryz.prog 104 #[.string (ba s)] w fun e w' => e = .returned (.tuple #[.agg #[.int .i64 p.seq, .int .i64 p.time, .bool p.f, .bool p.e, .bool p.k, .string p.t], .int .i64 D]) ∧ Below w.heap.size w w') := by
  rw [hp, hD]; exact decode_any s w
 have HNO : Hid (D = 0 → ∀ W : World, Below w.heap.size w W → Calls Tryz.prog 105 #[.pointer (some ⟨M, 0, none⟩), .agg #[.int .i64 p.seq, .int .i64 p.time, .bool p.f, .bool p.e, .bool p.k, .string p.t]] W fun e w' => e = .returned (.tuple #[.int .i64 n, .int .i64 NE]) ∧ Below W.heap.size W w') := fun h W hW => by
  rw [hn, hNE]; exact numberOf_any S M t _ p W (HT.out.below hW) (HPC.out h)
 have HGO : Hid (D = 0 → NE = 0 → ∃ N1 h1 o1, R = tkN o1 (t.buf (max t.last n) N1 h1, 0) ∧ (∀ W : World, w.heap.size ≤ W.heap.size → M < w.heap.size → SlsIn (fun g => S g ∧ g ≠ M) W hv t.h → Calls Tryz.prog 107 #[.agg #[.int .i64 next, hv], .agg #[.int .i64 n, .int .i64 p.seq, .int .i64 p.time, .bool p.f, .bool p.e, .bool p.k, .string p.t]] W fun e w' => ∃ pa pn pc qa qn qc, e = .returned (.tuple #[.agg #[.int .i64 N1, .slice pa pn pc], .slice qa qn qc, .int .i64 0]) ∧ Hid (SlsIn (fun g => S g ∧ g ≠ M) w' (.slice pa pn pc) h1) ∧ Hid (SlsIn (fun g => g ≠ M) w' (.slice qa qn qc) o1) ∧ Below W.heap.size W w') ∧ (∀ (W : World) (pv qv : Value), w.heap.size ≤ W.heap.size → TkB S M W (t.buf (max t.last n) t.next t.h) (0 : Nat) → SlsIn (fun g => S g ∧ g ≠ M) W pv h1 → SlsIn (fun g => g ≠ M) W qv o1 → Calls Tryz.prog 106 #[.pointer (some ⟨M, 0, none⟩), .agg #[.int .i64 N1, pv], qv, .int .i64 0] W fun e w' => e = .returned (.int .i64 R.2.2) ∧ Hid (R.2.2 = 0 → TkB S M w' R.1 (R.2.1 : Nat)) ∧ Hid (Kept [M] W w'))) := fun h0 h2 => by
  have hpc := HPC.out h0
  have hx : (Sk.mk n p).chk = 0 := by rw [hn]; exact num_slot hpc hcl (by rw [← hNE]; exact h2)
  obtain ⟨i1, i2, i3, i4, i5, i6, i7⟩ := put_inv hR hx
  obtain ⟨N1, hN1⟩ : ∃ x, x = (putF t.next t.h ⟨n, p⟩).1 := ⟨_, rfl⟩
  obtain ⟨h1, hh1⟩ : ∃ x, x = (putF t.next t.h ⟨n, p⟩).2.1 := ⟨_, rfl⟩
  obtain ⟨o1, ho1⟩ : ∃ x, x = (putF t.next t.h ⟨n, p⟩).2.2 := ⟨_, rfl⟩
  have hR2 : R = tkN o1 (t.buf (max t.last n) N1 h1, 0) := by rw [hRR, ho1, hN1, hh1]; rfl
  have hlo : o1.length ≤ 100 := by rw [ho1]; exact put_olen hR
  have hlh : h1.length ≤ 4 := by rw [hh1]; exact i1.2.1
  have hoc : ∀ y ∈ o1, y.chk = 0 := fun y hy => by
   rw [ho1] at hy
   rcases (i3 y hy).1 with e | e
   ·rw [e]; exact hx
   ·exact hR.2.2.1 y e
  refine ⟨N1, h1, o1, hR2, fun W hsz hMl hsl => ?_, fun W pv qv hsz htk q1 q2 => ?_⟩
  ·rw [hnext]
   refine (bufPut_any t.next hv t.h ⟨n, p⟩ W hsl.1 hsl.2.1).mono ?_
   rintro e w' ⟨hv', ov', rfl, f1, f2, f3⟩
   have hp0 : pchk t.next t.h = 0 := (bchk_right _ _).2 hR
   have e0 : putE t.next t.h ⟨n, p⟩ = 0 := by unfold putE; rw [if_pos hp0]; exact hx
   have e1 : putR t.next t.h ⟨n, p⟩ = putF t.next t.h ⟨n, p⟩ := by unfold putR; rw [if_pos e0]
   rw [e1] at f1 f2 ⊢
   rw [← hh1] at f1
   rw [← ho1] at f2
   obtain ⟨pa, pc, e2⟩ := f1.1.len
   obtain ⟨qa, qc, e3⟩ := f2.1.len
   subst e2 e3
   rw [e0, ← hN1]
   exact ⟨pa, _, pc, qa, _, qc, rfl, f1.slsIn (by omega) (fun g hg => ⟨hS g (by omega), by omega⟩), f2.slsIn (by omega) (fun g hg => by omega), f3⟩
  ·refine (tkPass_any S M (t.buf (max t.last n) t.next t.h) 0 N1 pv qv h1 o1 W htk hok q1 q2 hoc hlo (fun g hg => hS g (by omega)) (by omega)).mono ?_
   rintro e w' ⟨rfl, a1, a2⟩
   have e9 : (t.buf (max t.last n) t.next t.h).buf (t.buf (max t.last n) t.next t.h).last N1 h1 = t.buf (max t.last n) N1 h1 := rfl
   rw [e9, ← hR2] at a1 ⊢
   exact ⟨rfl, a1, a2⟩
 have HSUS : Hid (∀ g, w.heap.size ≤ g → S g) := hS
 have HR0 : Hid (TrIn (fun g => S g ∧ g ≠ M) w hv bv gv ov t) := hr
 obtain ⟨hn', hhn⟩ : ∃ x, x = t.h.length := ⟨_, rfl⟩
 obtain ⟨bn, hbn⟩ : ∃ x, x = t.o.length := ⟨_, rfl⟩
 obtain ⟨ln, hln⟩ : ∃ x, x = t.L.length := ⟨_, rfl⟩
 obtain ⟨lo, hlo⟩ : ∃ x, x = t.O.length := ⟨_, rfl⟩
 rw [← hhn] at eh
 rw [← hbn] at eb
 rw [← hln] at eg
 rw [← hlo] at eo
 have HTT : Hid (last = t.last ∧ next = t.next ∧ first = t.first) := ⟨hlast, hnext, hfirst⟩
 have HMX : Hid (max t.last n = max last n) := by show _ = _; rw [hlast]
 rw [← hlast, ← hnext, ← hfirst] at hM
 have HM : Hid (Blk w M #[.int .i64 last, .int .i64 next, hv, bv, .int .i64 first, gv, ov, .int .i64 (0 : Nat)] 155) := hM
 rw [← hF]
 clear hhn hbn hln hlo hlast hnext hfirst hM hr hR hok hS hcl hp hD hn hNE hRR hF
 subst eh eb eg eo
 go_enter Tryz.func63, Tryz.ntmps63
 go_wp2_with fail
 refine HDEC.out.mono ?_
 rintro e w1 ⟨rfl, b1⟩
 obtain ⟨W1, hW1⟩ : ∃ X, X = w1.alloc (.cells #[.int .i64 p.seq, .int .i64 p.time, .bool p.f, .bool p.e, .bool p.k, .string p.t] 63) := ⟨_, rfl⟩
 have HB1 : Hid (Below w.heap.size w W1) := by rw [hW1]; exact b1.alloc b1.size _
 have HP1 : Hid (Blk W1 w1.heap.size #[.int .i64 p.seq, .int .i64 p.time, .bool p.f, .bool p.e, .bool p.k, .string p.t] 63) := Blk.newE hW1
 have hs1 : w.heap.size ≤ w1.heap.size := b1.size
 clear HDEC b1
 by_cases hD0 : D = 0
 case neg =>
  have HFX : Hid (F = (Tr.zero, 0, D)) := HF1.out hD0
  go_wp2
  rw [← hW1]
  go_ret
  rw [HFX.out]
  exact ⟨rfl, fun h => absurd h hD0, (Kept.refl [M] w).below HB1.out⟩
 have HNO' : Hid (∀ W : World, Below w.heap.size w W → Calls Tryz.prog 105 #[.pointer (some ⟨M, 0, none⟩), .agg #[.int .i64 p.seq, .int .i64 p.time, .bool p.f, .bool p.e, .bool p.k, .string p.t]] W fun e w' => e = .returned (.tuple #[.int .i64 n, .int .i64 NE]) ∧ Below W.heap.size W w') := HNO.out hD0
 have HG2 := HGO.out hD0
 have HG3 : Hid (NE = 0 → _) := HG2
 have HF2' : Hid (¬ NE = 0 → F = (Tr.zero, 0, NE)) := HF2.out hD0
 have HF3' : Hid (NE = 0 → F = R) := HF3.out hD0
 obtain ⟨j0, j1, j2, j3, j4, j5⟩ := HP1.out.sixc
 clear HG2 HGO HNO HF1 HF2 HF3
 subst hD0
 go_upto_region 4 with fail
 rw [← hW1]
 clear hW1
 go_wp2_with fail
 refine (HNO'.out W1 HB1.out).mono ?_
 rintro e w2 ⟨rfl, b2⟩
 have HB2 : Hid (Below w.heap.size w w2) := HB1.out.trans (b2.mono HB1.out.size)
 have HP2 : Hid (Blk w2 w1.heap.size #[.int .i64 p.seq, .int .i64 p.time, .bool p.f, .bool p.e, .bool p.k, .string p.t] 63) := HP1.out.below b2 HP1.out.lt
 clear b2 HB1 HP1 j0 j1 j2 j3 j4 j5 HNO'
 by_cases hN0 : NE = 0
 case neg =>
  have HFX : Hid (F = (Tr.zero, 0, NE)) := HF2'.out hN0
  go_wp2
  go_ret
  rw [HFX.out]
  exact ⟨rfl, fun h => absurd h hN0, (Kept.refl [M] w).below HB2.out⟩
 obtain ⟨N1, h1, o1, hR2, hput, hpass⟩ := HG3.out hN0
 have HRF : Hid (F = R) := HF3'.out hN0
 have HM2 := HM.out.below HB2.out hMw
 obtain ⟨y0, y1, y2, y3, y4, y5, y6, y7⟩ := HM2.eight
 have fM := HM2.free
 have lM := HM2.lt
 have hB5 : w1.heap.size ≠ M := by omega
 obtain ⟨W, hW⟩ : ∃ X, X = w2.setCell ⟨M, 0, none⟩ (.int .i64 (max last n)) := ⟨_, rfl⟩
 have HKW : Hid (Kept [M] w W) := by rw [hW]; exact ((Kept.refl [M] w).below HB2.out).setCell (p := ⟨M, 0, none⟩) (by simp) _
 have HPW : Hid (Blk W w1.heap.size #[.int .i64 p.seq, .int .i64 p.time, .bool p.f, .bool p.e, .bool p.k, .string p.t] 63) := by rw [hW]; exact HP2.out.other (a := ⟨M, 0, none⟩) hB5 _
 have HMW : Hid (Blk W M #[.int .i64 (max last n), .int .i64 next, .slice ha hn' hc, .slice ba' bn bc, .int .i64 first, .slice ga ln gc, .slice oa lo oc, .int .i64 (0 : Nat)] 155) := by
  have := HM2.set 0 (.int .i64 (max last n))
  rw [hW]; simpa [Hid] using this
 have HRW : Hid (TrIn (fun g => S g ∧ g ≠ M) W (.slice ha hn' hc) (.slice ba' bn bc) (.slice ga ln gc) (.slice oa lo oc) t) := by
  have h2 := HR0.out.below HB2.out
  exact h2.to ⟨by rw [hW]; simp, fun g _ h => by rw [hW, Below.heap_setCell _ _ _ _ (by exact h.2)]⟩ (fun _ _ h => h)
 have HTW : Hid (TkB S M W (t.buf (max t.last n) t.next t.h) (0 : Nat)) := by
  refine ⟨_, _, _, _, ?_, HRW.out⟩
  have := HMW.out
  rw [HTT.out.2.1, HTT.out.2.2, ← HMX.out] at this
  exact this
 have hsW : w.heap.size ≤ W.heap.size := HKW.out.size
 have HPUT : Hid (∀ w', Below W.heap.size W w' → Calls Tryz.prog 107 #[.agg #[.int .i64 next, .slice ha hn' hc], .agg #[.int .i64 n, .int .i64 p.seq, .int .i64 p.time, .bool p.f, .bool p.e, .bool p.k, .string p.t]] w' fun e w'' => ∃ pa pn pc qa qn qc, e = .returned (.tuple #[.agg #[.int .i64 N1, .slice pa pn pc], .slice qa qn qc, .int .i64 0]) ∧ Hid (SlsIn (fun g => S g ∧ g ≠ M) w'' (.slice pa pn pc) h1) ∧ Hid (SlsIn (fun g => g ≠ M) w'' (.slice qa qn qc) o1) ∧ Below w'.heap.size w' w'') := fun w' hb => hput w' (Nat.le_trans hsW hb.size) hMw (HRW.out.1.below hb)
 have HPASS : Hid (∀ (w' : World) (pv qv : Value), Below W.heap.size W w' → SlsIn (fun g => S g ∧ g ≠ M) w' pv h1 → SlsIn (fun g => g ≠ M) w' qv o1 → Calls Tryz.prog 106 #[.pointer (some ⟨M, 0, none⟩), .agg #[.int .i64 N1, pv], qv, .int .i64 0] w' fun e w'' => e = .returned (.int .i64 R.2.2) ∧ Hid (R.2.2 = 0 → TkB S M w'' R.1 (R.2.1 : Nat)) ∧ Hid (Kept [M] W w'')) := fun w' pv qv hb q1 q2 => by
  refine (hpass w' pv qv (Nat.le_trans hsW hb.size) (HTW.out.below hb) q1 q2).mono ?_
  rintro e w'' ⟨rfl, a1, a2⟩
  exact ⟨rfl, a1, ((Kept.refl [M] W).below hb).trans a2.out⟩
 clear hput hpass hR2 HG3 HF2' HF3' HM2 HRW HTW HR0 HP2 HB2 HM HT HTT HMX HSUS HPC
 subst hN0
 obtain ⟨B, hBe⟩ : ∃ x, x = w1.heap.size := ⟨_, rfl⟩
 rw [← hBe] at HPW
 go_upto_region 8 with fail
 have hmx : (if last < n then n else last) = max last n := by split <;> omega
 rw [hmx, ← hW, ← hBe]
 have hBM : B ≠ M := by omega
 clear hmx hW hBe y0 y1 y2 y3 y4 y5 y6 y7 fM lM hB5
 refine region_boxes (by kernel_rfl) (by kernel_rfl) [.quiet (.pointer (some ⟨M, 0, none⟩)) 3, .quiet (.pointer (some ⟨M, 0, none⟩)) 3, .quiet (.pointer (some ⟨M, 0, none⟩)) 3, .quiet (.pointer (some ⟨M, 0, none⟩)) 3, .quiet (.pointer (some ⟨M, 1, none⟩)) 3, .quiet (.agg #[.int .i64 next, .slice ha hn' hc]) 0, .quiet (.int .i64 n) 3, .quiet (.agg #[.int .i64 p.seq, .int .i64 p.time, .bool p.f, .bool p.e, .bool p.k, .string p.t]) 3, .quiet (.agg #[.int .i64 n, .int .i64 p.seq, .int .i64 p.time, .bool p.f, .bool p.e, .bool p.k, .string p.t]) 3, .step 0, .fin 0 (exT 0), .fin 0 (exT 1), .fin 0 (exT 2), .step 1, .step 2] [9, 13, 14] (by kernel_rfl)
  (fun s r _ w' => (0 < s → ∃ pa pn pc qa qn qc, r 0 = .tuple #[.agg #[.int .i64 N1, .slice pa pn pc], .slice qa qn qc, .int .i64 0]) ∧ (match s with
   | 0 => Below W.heap.size W w'
   | 1 => Below W.heap.size W w' ∧ ∃ pa pn pc qa qn qc, r 0 = .tuple #[.agg #[.int .i64 N1, .slice pa pn pc], .slice qa qn qc, .int .i64 0] ∧ SlsIn (fun g => S g ∧ g ≠ M) w' (.slice pa pn pc) h1 ∧ SlsIn (fun g => g ≠ M) w' (.slice qa qn qc) o1
   | 2 => Kept [M] W w' ∧ r 1 = .int .i64 R.2.2 ∧ (R.2.2 = 0 → TkB S M w' R.1 (R.2.1 : Nat))
   | _ => Kept [M] W w' ∧ r 2 = .int .i64 R.2.2 ∧ (R.2.2 = 0 → TkB S M w' R.1 (R.2.1 : Nat))
   )) ⟨fun h => absurd h (Nat.lt_irrefl _), (Below.refl _ W).drew⟩ ?step ?fin
 case step =>
  intro i o ho a' w' s r b ⟨hr0, hI⟩ hfree hvals hbx
  have f0 : a'.eval (.tmp 0) = .pointer (some ⟨M, 0, none⟩) := (hfree 0 (by kernel_rfl)).trans rfl
  have f7 : a'.eval (.tmp 7) = .int .i64 n := (hfree 7 (by kernel_rfl)).trans rfl
  have f5 : a'.eval (.tmp 5) = .pointer (some ⟨B, 0, none⟩) := (hfree 5 (by kernel_rfl)).trans rfl
  match i, ho with
  | 0, ho =>
   simp at ho; subst ho
   show s ≤ 3 → (execOp a'.eval _).run _ w' = .ok (.value _) w'
   intro hs
   generalize a'.eval = ρ at *
   simp [execOp, go_sem, f0]
  | 1, ho =>
   simp at ho; subst ho
   show s ≤ 3 → (execOp a'.eval _).run _ w' = .ok (.value _) w'
   intro hs
   generalize a'.eval = ρ at *
   simp [execOp, go_sem, f0]
  | 2, ho =>
   simp at ho; subst ho
   show s ≤ 3 → (execOp a'.eval _).run _ w' = .ok (.value _) w'
   intro hs
   have e37 : a'.eval (.tmp 37) = .pointer (some ⟨M, 0, none⟩) := hvals 1 _ _ (by kernel_rfl) rfl rfl
   generalize a'.eval = ρ at *
   simp [execOp, go_sem, e37]
  | 3, ho =>
   simp at ho; subst ho
   show s ≤ 3 → (execOp a'.eval _).run _ w' = .ok (.value _) w'
   intro hs
   have e38 : a'.eval (.tmp 38) = .pointer (some ⟨M, 0, none⟩) := hvals 2 _ _ (by kernel_rfl) rfl rfl
   generalize a'.eval = ρ at *
   simp [execOp, go_sem, e38]
  | 4, ho =>
   simp at ho; subst ho
   show s ≤ 3 → (execOp a'.eval _).run _ w' = .ok (.value _) w'
   intro hs
   have e39 : a'.eval (.tmp 39) = .pointer (some ⟨M, 0, none⟩) := hvals 3 _ _ (by kernel_rfl) rfl rfl
   generalize a'.eval = ρ at *
   simp [execOp, go_sem, e39]
  | 5, ho =>
   simp at ho; subst ho
   show s ≤ 0 → (execOp a'.eval _).run _ w' = .ok (.value _) w'
   intro hs
   have e40 : a'.eval (.tmp 40) = .pointer (some ⟨M, 1, none⟩) := hvals 4 _ _ (by kernel_rfl) rfl rfl
   obtain rfl : s = 0 := by omega
   have hB : Below W.heap.size W w' := hI
   obtain ⟨y0, y1, y2, y3, y4, y5, y6, y7⟩ := (HMW.out.below hB HMW.out.lt).eight
   generalize a'.eval = ρ at *
   simp [execOp, go_sem, e40, y1, y2]
  | 6, ho =>
   simp at ho; subst ho
   show s ≤ 3 → (execOp a'.eval _).run _ w' = .ok (.value _) w'
   intro hs
   generalize a'.eval = ρ at *
   simp [execOp, go_sem, f7]
  | 7, ho =>
   simp at ho; subst ho
   show s ≤ 3 → (execOp a'.eval _).run _ w' = .ok (.value _) w'
   intro hs
   have hPB : Blk w' B #[.int .i64 p.seq, .int .i64 p.time, .bool p.f, .bool p.e, .bool p.k, .string p.t] 63 := by
    match s, hI with
    | 0, hI => exact HPW.out.below hI HPW.out.lt
    | 1, hI => exact HPW.out.below hI.1 HPW.out.lt
    | 2, hI => exact HPW.out.kept hI.1 (by simpa using hBM)
    | n + 3, hI => exact HPW.out.kept hI.1 (by simpa using hBM)
   obtain ⟨j0, j1, j2, j3, j4, j5⟩ := hPB.sixc
   generalize a'.eval = ρ at *
   simp [execOp, go_sem, f5, j0, j1, j2, j3, j4, j5]
  | 8, ho =>
   simp at ho; subst ho
   show s ≤ 3 → (execOp a'.eval _).run _ w' = .ok (.value _) w'
   intro hs
   have e42 : a'.eval (.tmp 42) = .int .i64 n := hvals 6 _ _ (by kernel_rfl) rfl rfl
   have e43 : a'.eval (.tmp 43) = .agg #[.int .i64 p.seq, .int .i64 p.time, .bool p.f, .bool p.e, .bool p.k, .string p.t] := hvals 7 _ _ (by kernel_rfl) rfl rfl
   generalize a'.eval = ρ at *
   simp [execOp, go_sem, e42, e43]
  | 9, ho =>
   simp at ho; subst ho
   have e41 : a'.eval (.tmp 41) = .agg #[.int .i64 next, .slice ha hn' hc] := hvals 5 _ _ (by kernel_rfl) rfl rfl
   have e44 : a'.eval (.tmp 44) = .agg #[.int .i64 n, .int .i64 p.seq, .int .i64 p.time, .bool p.f, .bool p.e, .bool p.k, .string p.t] := hvals 8 _ _ (by kernel_rfl) rfl rfl
   show s = 0 → _
   intro hs
   subst hs
   have hB : Below W.heap.size W w' := hI
   have ef : a'.eval (.func 107) = .func (.func 107) #[] #[] := rfl
   refine oper_wp_call (f := 107) (args := #[.agg #[.int .i64 next, .slice ha hn' hc], .agg #[.int .i64 n, .int .i64 p.seq, .int .i64 p.time, .bool p.f, .bool p.e, .bool p.k, .string p.t]]) ?_ ((HPUT.out w' hB).mono ?_)
   ·generalize a'.eval = ρ at *
    simp [execOp, go_sem, e41, e44, ef]
   ·rintro e w'' ⟨pa, pn, pc, qa, qn, qc, rfl, q1, q2, b1⟩
    exact ⟨_, rfl, _, rfl, fun _ => ⟨pa, pn, pc, qa, qn, qc, updR_at _ _ _⟩, hB.trans (b1.mono hB.size), pa, pn, pc, qa, qn, qc, updR_at _ _ _, q1.out, q2.out⟩
  | 10, ho =>
   simp at ho; subst ho
   have e45 : a'.eval (.tmp 45) = r 0 := hvals 9 _ _ (by kernel_rfl) rfl rfl
   show 0 < s → (execOp a'.eval _).run _ w' = .ok (.value _) w'
   intro hs
   obtain ⟨pa, pn, pc, qa, qn, qc, er⟩ : ∃ pa pn pc qa qn qc, r 0 = .tuple #[.agg #[.int .i64 N1, .slice pa pn pc], .slice qa qn qc, .int .i64 0] := hr0 hs
   rw [er] at e45 ⊢
   simp only [exT] at e45 ⊢
   generalize a'.eval = ρ at *
   simp [execOp, go_sem, e45]
  | 11, ho =>
   simp at ho; subst ho
   have e45 : a'.eval (.tmp 45) = r 0 := hvals 9 _ _ (by kernel_rfl) rfl rfl
   show 0 < s → (execOp a'.eval _).run _ w' = .ok (.value _) w'
   intro hs
   obtain ⟨pa, pn, pc, qa, qn, qc, er⟩ : ∃ pa pn pc qa qn qc, r 0 = .tuple #[.agg #[.int .i64 N1, .slice pa pn pc], .slice qa qn qc, .int .i64 0] := hr0 hs
   rw [er] at e45 ⊢
   simp only [exT] at e45 ⊢
   generalize a'.eval = ρ at *
   simp [execOp, go_sem, e45]
  | 12, ho =>
   simp at ho; subst ho
   have e45 : a'.eval (.tmp 45) = r 0 := hvals 9 _ _ (by kernel_rfl) rfl rfl
   show 0 < s → (execOp a'.eval _).run _ w' = .ok (.value _) w'
   intro hs
   obtain ⟨pa, pn, pc, qa, qn, qc, er⟩ : ∃ pa pn pc qa qn qc, r 0 = .tuple #[.agg #[.int .i64 N1, .slice pa pn pc], .slice qa qn qc, .int .i64 0] := hr0 hs
   rw [er] at e45 ⊢
   simp only [exT] at e45 ⊢
   generalize a'.eval = ρ at *
   simp [execOp, go_sem, e45]
  | 13, ho =>
   simp at ho; subst ho
   show s = 1 → _
   intro hs
   subst hs
   obtain ⟨hB, pa, pn, pc, qa, qn, qc, er, q1, q2⟩ := hI
   have e36 : a'.eval (.tmp 36) = .pointer (some ⟨M, 0, none⟩) := hvals 0 _ _ (by kernel_rfl) rfl rfl
   have e46 : a'.eval (.tmp 46) = .agg #[.int .i64 N1, .slice pa pn pc] := (hvals 10 _ _ (by kernel_rfl) rfl rfl).trans (by show exT 0 (r 0) = _; rw [er]; rfl)
   have e47 : a'.eval (.tmp 47) = .slice qa qn qc := (hvals 11 _ _ (by kernel_rfl) rfl rfl).trans (by show exT 1 (r 0) = _; rw [er]; rfl)
   have e48 : a'.eval (.tmp 48) = .int .i64 0 := (hvals 12 _ _ (by kernel_rfl) rfl rfl).trans (by show exT 2 (r 0) = _; rw [er]; rfl)
   have ef : a'.eval (.func 106) = .func (.func 106) #[] #[] := rfl
   refine oper_wp_call (f := 106) (args := #[.pointer (some ⟨M, 0, none⟩), .agg #[.int .i64 N1, .slice pa pn pc], .slice qa qn qc, .int .i64 0]) ?_ ((HPASS.out w' _ _ hB q1 q2).mono ?_)
   ·generalize a'.eval = ρ at *
    simp [execOp, go_sem, e36, e46, e47, e48, ef]
   ·rintro e w'' ⟨rfl, a1, a2⟩
    exact ⟨_, rfl, _, rfl, fun _ => ⟨pa, pn, pc, qa, qn, qc, by rw [updR_ne (by omega)]; exact er⟩, a2.out, updR_at _ _ _, a1.out⟩
  | 14, ho =>
   simp at ho; subst ho
   show s = 2 → _
   intro hs
   subst hs
   obtain ⟨k1, er, k2⟩ := hI
   have e49 : a'.eval (.tmp 49) = .int .i64 R.2.2 := (hvals 13 _ _ (by kernel_rfl) rfl rfl).trans er
   obtain ⟨pa, pn, pc, qa, qn, qc, er0⟩ := hr0 (by omega)
   refine oper_wp_ok (v := .int .i64 R.2.2) (w' := w') ?_ ⟨_, rfl, fun _ => ⟨pa, pn, pc, qa, qn, qc, by rw [updR_ne (by omega)]; exact er0⟩, k1, updR_at _ _ _, k2⟩
   generalize a'.eval = ρ at *
   simp [execOp, go_sem, e49]
  | i + 15, ho => simp at ho
 case fin =>
  rintro r b w7 ⟨hr0, k1, er, k2⟩ _
  obtain ⟨pa, pn, pc, qa, qn, qc, er0⟩ := hr0 (by decide)
  simp only [putM, Cm.out, er, er0, exT, Act.put, List.setIfInBounds_toArray, List.set_cons_succ, List.set_cons_zero]
  have K1 : Hid (Kept [M] W w7) := k1
  have K2 : Hid (R.2.2 = 0 → TkB S M w7 R.1 (R.2.1 : Nat)) := k2
  clear k1 k2 er er0 hr0
  go_wp2
  go_ret
  rw [HRF.out]
  exact ⟨rfl, K2.out, HKW.out.trans K1.out⟩
end Go.Proofs.YtnpaejknoipicagGreat
namespace Go.Proofs.YtnpaejknoipicagGreat
open Go.RowKit
set_option maxHeartbeats 4000000 in
set_option maxRecDepth 100000 in
theorem cloneGroupO_any (S : Nat → Prop) (v : Value) (l : List Fr) (w : World) (hv : FrsIn S w v l) (h6 : l.length ≤ 6) (hck : ∀ k, k < l.length → (frAt l k).chk = 0) :
  Calls Tryz.prog 70 #[.agg #[v]] w fun e w' => ∃ a c, e = .returned (.agg #[.slice a l.length c]) ∧ FrsIn (fun g => w.heap.size ≤ g) w' (.slice a l.length c) l ∧ Below w.heap.size w w' := by
 obtain ⟨va, vc, ev, _, _⟩ := hv.len
 obtain ⟨n, hn⟩ : ∃ n, n = l.length := ⟨_, rfl⟩
 have HN : Hid (n = l.length) := hn
 have HV : Hid (FrsIn S w v l) := hv
 have HC : Hid (∀ U, Below w.heap.size w U → Calls Tryz.prog 111 #[v, .func (.func 112) #[] #[]] U fun e w' => ∃ a c, e = .returned (.slice a n c) ∧ Hid (FrsIn (fun g => U.heap.size ≤ g) w' (.slice a n c) l) ∧ Below U.heap.size U w') := fun U hU => by
  refine (cloneFrs_any S v l U (HV.out.below hU) h6 hck).mono ?_
  rintro e w' ⟨u, rfl, ho, hb⟩
  have hf : FrsIn (fun g => U.heap.size ≤ g) w' u l := ho.frsIn (fun g _ h => h.1) (fun g hg => (ho.lt g hg).1)
  obtain ⟨a, c, e, _, _⟩ := hf.len
  rw [← hn] at e
  subst e
  exact ⟨a, c, rfl, hf, hb⟩
 rw [← hn] at ev ⊢
 clear hv hck hn h6
 subst ev
 go_enter Tryz.func70, Tryz.ntmps70
 go_wp2_with fail
 have B1 : Hid (Below w.heap.size w ((w.alloc (.cells #[.slice va n vc] 30)).alloc (.cells #[.slice none 0 0] 30))) := ((Below.refl _ _).alloc (Nat.le_refl _) _).alloc (by simp) _
 have K1 : Hid (Blk ((w.alloc (.cells #[.slice va n vc] 30)).alloc (.cells #[.slice none 0 0] 30)) (w.heap.size + 1) #[.slice none 0 0] 30) := by
  have := Blk.new (w.alloc (.cells #[.slice va n vc] 30)) #[.slice none 0 0] 30
  simpa [Hid] using this
 refine (HC.out _ B1.out).mono ?_
 rintro e w2 ⟨a2, c2, rfl, HF, hb2⟩
 have B2 : Hid (Below w.heap.size w w2) := B1.out.trans (hb2.mono B1.out.size)
 have K2 := K1.out.below hb2 K1.out.lt
 have r0 := K2.one
 have r1 := K2.free 0
 have c9 : (w2.setCell ⟨w.heap.size + 1, 0, none⟩ (.slice a2 n c2)).cell? ⟨w.heap.size + 1, 0, none⟩ = some (.slice a2 n c2) := (K2.set 0 _).cell rfl
 have F9 : Hid (FrsIn (fun g => w.heap.size ≤ g) (w2.setCell ⟨w.heap.size + 1, 0, none⟩ (.slice a2 n c2)) (.slice a2 n c2) l) := HF.out.to (SameOn.setCell (fun g hg => by simp at hg ⊢; omega) _) (fun g _ hg => by simp at hg; omega)
 clear hb2 K1 B1 K2 HF
 go_wp2
 exact bodyPost_ret (v := .agg #[.slice a2 n c2]) (by simp [results, Tryz.results70, go_sem, c9]) rfl ⟨a2, c2, rfl, F9.out, B2.out.setCell (by simp) _⟩
def ClT (w U : World) (C : Array Value) (hv bv gv ov : Value) (t : Tr) : Prop :=
 Below w.heap.size w U ∧ Blk U w.heap.size C 34 ∧
 Blk U (w.heap.size + 1) #[.int .i64 0, .int .i64 0, .slice none 0 0, .slice none 0 0, .int .i64 0, .slice none 0 0, .slice none 0 0] 34 ∧
 w.heap.size + 2 ≤ U.heap.size ∧ TrIn (fun g => g < w.heap.size) U hv bv gv ov t
theorem ClT.go {w U U' : World} {C : Array Value} {hv bv gv ov : Value} {t : Tr} (h : ClT w U C hv bv gv ov t) (hb : Below U.heap.size U U') : ClT w U' C hv bv gv ov t := by
 obtain ⟨h1, h2, h3, h4, h5⟩ := h
 exact ⟨h1.trans (hb.mono h1.size), h2.below hb h2.lt, h3.below hb h3.lt, Nat.le_trans h4 hb.size, h5.below hb⟩
theorem ClT.set {w U : World} {C : Array Value} {hv bv gv ov : Value} {t : Tr} (h : ClT w U C hv bv gv ov t) (i : Nat) (v : Value) : ClT w (U.setCell ⟨w.heap.size, i, none⟩ v) (C.setIfInBounds i v) hv bv gv ov t := by
 obtain ⟨h1, h2, h3, h4, h5⟩ := h
 exact ⟨h1.setCell (by simp) _, h2.set i v, h3.other (a := ⟨w.heap.size, i, none⟩) (by simp) v, by simpa using h4, h5.to (SameOn.setCell (fun g hg => by simp at hg ⊢; omega) _) (fun g _ hg => hg)⟩
theorem sls_set {w U : World} {v : Value} {l : List Sk} (h : SlsIn (fun g => w.heap.size + 2 ≤ g) U v l) (i : Nat) (u : Value) : SlsIn (fun g => w.heap.size + 2 ≤ g) (U.setCell ⟨w.heap.size, i, none⟩ u) v l :=
 h.to (SameOn.setCell (fun g hg => by simp at hg ⊢; omega) _) (fun g _ hg => hg)
theorem grs_set {w U : World} {v : Value} {l : List (List Fr)} (h : GrsIn (fun g => w.heap.size + 2 ≤ g) U v l) (i : Nat) (u : Value) : GrsIn (fun g => w.heap.size + 2 ≤ g) (U.setCell ⟨w.heap.size, i, none⟩ u) v l :=
 h.to (SameOn.setCell (fun g hg => by simp at hg ⊢; omega) _) (fun g _ hg => hg)
theorem frs_set {w U : World} {v : Value} {l : List Fr} (h : FrsIn (fun g => w.heap.size + 2 ≤ g) U v l) (i : Nat) (u : Value) : FrsIn (fun g => w.heap.size + 2 ≤ g) (U.setCell ⟨w.heap.size, i, none⟩ u) v l :=
 h.to (SameOn.setCell (fun g hg => by simp at hg ⊢; omega) _) (fun g _ hg => hg)
theorem seven_out {w : World} {A : Nat} {t : TypeId} (h : Blk w A #[.int .i64 0, .int .i64 0, .slice none 0 0, .slice none 0 0, .int .i64 0, .slice none 0 0, .slice none 0 0] t) (x0 x1 x2 x3 x4 x5 x6 : Value) :
  Blk (((((((w.setCell ⟨A, 0, none⟩ x0).setCell ⟨A, 1, none⟩ x1).setCell ⟨A, 2, none⟩ x2).setCell ⟨A, 3, none⟩ x3).setCell ⟨A, 4, none⟩ x4).setCell ⟨A, 5, none⟩ x5).setCell ⟨A, 6, none⟩ x6) A #[x0, x1, x2, x3, x4, x5, x6] t :=
 ((((((h.set 0 x0).set 1 x1).set 2 x2).set 3 x3).set 4 x4).set 5 x5).set 6 x6
set_option maxHeartbeats 8000000 in
set_option maxRecDepth 100000 in
theorem cloneTrack_any (S : Nat → Prop) (t : Tr) (hv bv gv ov : Value) (w : World) (hr : TrIn S w hv bv gv ov t) (hck : t.chk = 0) :
  Calls Tryz.prog 30 #[.agg #[.int .i64 t.last, .int .i64 t.next, hv, bv, .int .i64 t.first, gv, ov]] w fun e w' => ∃ hv' bv' gv' ov', e = .returned (.agg #[.int .i64 t.last, .int .i64 t.next, hv', bv', .int .i64 t.first, gv', ov']) ∧ TrIn (fun g => w.heap.size ≤ g) w' hv' bv' gv' ov' t ∧ Below w.heap.size w w' := by
 obtain ⟨_, hR, hO, hS, _⟩ := Tr.chk_zero.1 hck
 obtain ⟨_, hl4, hch, _⟩ := hR
 obtain ⟨ho3, _, hco⟩ := ochk_len hO
 obtain ⟨_, _, hL5, hLg, _, hOg⟩ := stchk_zero.1 hS
 have h6 : t.O.length ≤ 6 ∧ ∀ k, k < t.O.length → (frAt t.O k).chk = 0 := by
  rcases hOg with h | h
  ·rw [h]; exact ⟨by simp, fun k hk => absurd hk (by simp)⟩
  ·obtain ⟨_, h1, h2⟩ := gchk_zero.1 h
   exact ⟨h1, fun k hk => (h2 k hk).1⟩
 obtain ⟨ha, hc, ba', bc, ga, gc, oa, oc, eh, eb, eg, eo⟩ := hr.slices
 have hr' : TrIn (fun g => g < w.heap.size) w hv bv gv ov t := hr.mono fun g hg _ => hg
 obtain ⟨nh, hnh⟩ : ∃ n, n = t.h.length := ⟨_, rfl⟩
 obtain ⟨no, hno⟩ : ∃ n, n = t.o.length := ⟨_, rfl⟩
 obtain ⟨ng, hng⟩ : ∃ n, n = t.L.length := ⟨_, rfl⟩
 obtain ⟨nO, hnO⟩ : ∃ n, n = t.O.length := ⟨_, rfl⟩
 have H1 : Hid (∀ U C, ClT w U C hv bv gv ov t → Calls Tryz.prog 68 #[hv] U fun e w' => ∃ a c, e = .returned (.slice a nh c) ∧ Hid (SlsIn (fun g => w.heap.size + 2 ≤ g) w' (.slice a nh c) t.h) ∧ Below U.heap.size U w') := fun U C hU => by
  refine (copyAll_any hv t.h U hU.2.2.2.2.1.1 (by omega) (fun x hx => Sk.chk_short (hch x hx))).mono ?_
  rintro e w' ⟨u, rfl, ho, hb⟩
  have hf : SlsIn (fun g => w.heap.size + 2 ≤ g) w' u t.h := SlsIn.of (Sls.of_owns ho) (by omega) (fun g hg _ => Nat.le_trans hU.2.2.2.1 (owns_blk ho hg).1)
  obtain ⟨a, c, e⟩ := hf.len
  rw [← hnh] at e
  subst e
  exact ⟨a, c, rfl, hf, hb⟩
 have H2 : Hid (∀ U C, ClT w U C hv bv gv ov t → Calls Tryz.prog 68 #[bv] U fun e w' => ∃ a c, e = .returned (.slice a no c) ∧ Hid (SlsIn (fun g => w.heap.size + 2 ≤ g) w' (.slice a no c) t.o) ∧ Below U.heap.size U w') := fun U C hU => by
  refine (copyAll_any bv t.o U hU.2.2.2.2.2.1.1 (by omega) (fun x hx => Sk.chk_short (hco x hx))).mono ?_
  rintro e w' ⟨u, rfl, ho, hb⟩
  have hf : SlsIn (fun g => w.heap.size + 2 ≤ g) w' u t.o := SlsIn.of (Sls.of_owns ho) (by omega) (fun g hg _ => Nat.le_trans hU.2.2.2.1 (owns_blk ho hg).1)
  obtain ⟨a, c, e⟩ := hf.len
  rw [← hno] at e
  subst e
  exact ⟨a, c, rfl, hf, hb⟩
 have H3 : Hid (∀ U C, ClT w U C hv bv gv ov t → Calls Tryz.prog 69 #[gv] U fun e w' => ∃ a c, e = .returned (.slice a ng c) ∧ Hid (GrsIn (fun g => w.heap.size + 2 ≤ g) w' (.slice a ng c) t.L) ∧ Below U.heap.size U w') := fun U C hU => by
  refine (cloneGroups_any _ gv t.L U hU.2.2.2.2.2.2.1 (by omega) hLg).mono ?_
  rintro e w' ⟨u, rfl, ho, hb⟩
  have hf : GrsIn (fun g => w.heap.size + 2 ≤ g) w' u t.L := ho.grsIn (fun g _ h => Nat.le_trans hU.2.2.2.1 h.1) (fun g hg => Nat.le_trans hU.2.2.2.1 (ho.lt g hg).1)
  obtain ⟨a, c, e, _, _⟩ := hf.len
  rw [← hng] at e
  subst e
  exact ⟨a, c, rfl, hf, hb⟩
 have H4 : Hid (∀ U C, ClT w U C hv bv gv ov t → Calls Tryz.prog 70 #[.agg #[ov]] U fun e w' => ∃ a c, e = .returned (.agg #[.slice a nO c]) ∧ Hid (FrsIn (fun g => w.heap.size + 2 ≤ g) w' (.slice a nO c) t.O) ∧ Below U.heap.size U w') := fun U C hU => by
  refine (cloneGroupO_any _ ov t.O U hU.2.2.2.2.2.2.2 h6.1 h6.2).mono ?_
  rintro e w' ⟨a, c, rfl, hf, hb⟩
  rw [← hnO] at hf ⊢
  exact ⟨a, c, rfl, hf.mono fun g _ h => Nat.le_trans hU.2.2.2.1 h, hb⟩
 rw [← hnh] at eh
 rw [← hno] at eb
 rw [← hng] at eg
 rw [← hnO] at eo
 obtain ⟨last, hla⟩ : ∃ x, x = t.last := ⟨_, rfl⟩
 obtain ⟨next, hne⟩ : ∃ x, x = t.next := ⟨_, rfl⟩
 obtain ⟨first, hfi⟩ : ∃ x, x = t.first := ⟨_, rfl⟩
 rw [← hla, ← hne, ← hfi]
 have HI : Hid (ClT w ((w.alloc (.cells #[.int .i64 last, .int .i64 next, hv, bv, .int .i64 first, gv, ov] 34)).alloc (.cells #[.int .i64 0, .int .i64 0, .slice none 0 0, .slice none 0 0, .int .i64 0, .slice none 0 0, .slice none 0 0] 34)) #[.int .i64 last, .int .i64 next, hv, bv, .int .i64 first, gv, ov] hv bv gv ov t) := by
  have b1 : Below w.heap.size w (w.alloc (.cells #[.int .i64 last, .int .i64 next, hv, bv, .int .i64 first, gv, ov] 34)) := (Below.refl _ _).alloc (Nat.le_refl _) _
  have k1 := Blk.new w #[.int .i64 last, .int .i64 next, hv, bv, .int .i64 first, gv, ov] 34
  have k2 := Blk.new (w.alloc (.cells #[.int .i64 last, .int .i64 next, hv, bv, .int .i64 first, gv, ov] 34)) #[.int .i64 0, .int .i64 0, .slice none 0 0, .slice none 0 0, .int .i64 0, .slice none 0 0, .slice none 0 0] 34
  have b2 : Below w.heap.size w ((w.alloc (.cells #[.int .i64 last, .int .i64 next, hv, bv, .int .i64 first, gv, ov] 34)).alloc (.cells #[.int .i64 0, .int .i64 0, .slice none 0 0, .slice none 0 0, .int .i64 0, .slice none 0 0, .slice none 0 0] 34)) := b1.alloc (by simp) _
  exact ⟨b2, k1.below ((Below.refl _ _).alloc (Nat.le_refl _) _) k1.lt, by simpa using k2, by simp, hr'.below b2⟩
 clear hla hne hfi hr hr' hck hO hS hl4 hch ho3 hco hL5 hLg hOg h6 hnh hno hng hnO
 subst eh eb eg eo
 go_enter Tryz.func30, Tryz.ntmps30
 obtain ⟨W, hW⟩ : ∃ W, W = (w.alloc (.cells #[.int .i64 last, .int .i64 next, .slice ha nh hc, .slice ba' no bc, .int .i64 first, .slice ga ng gc, .slice oa nO oc] 34)).alloc (.cells #[.int .i64 0, .int .i64 0, .slice none 0 0, .slice none 0 0, .int .i64 0, .slice none 0 0, .slice none 0 0] 34) := ⟨_, rfl⟩
 rw [← hW] at HI
 go_wp2_with fail
 rw [← hW]
 clear hW
 refine (H1.out W _ HI.out).mono ?_
 rintro e w1 ⟨a1, c1, rfl, D1, b1⟩
 have HI1 := HI.out.go b1
 clear b1 HI H1
 have f := HI1.2.1.free 2
 obtain ⟨y0, y1, y2, y3, y4, y5, y6⟩ := HI1.2.1.sevenc
 have J1 : Hid (ClT w (w1.setCell ⟨w.heap.size, 2, none⟩ (.slice a1 nh c1)) #[.int .i64 last, .int .i64 next, .slice a1 nh c1, .slice ba' no bc, .int .i64 first, .slice ga ng gc, .slice oa nO oc] (.slice ha nh hc) (.slice ba' no bc) (.slice ga ng gc) (.slice oa nO oc) t) := HI1.set 2 (.slice a1 nh c1)
 have D1' : Hid (SlsIn (fun g => w.heap.size + 2 ≤ g) (w1.setCell ⟨w.heap.size, 2, none⟩ (.slice a1 nh c1)) (.slice a1 nh c1) t.h) := sls_set D1.out 2 _
 clear D1 HI1
 go_wp2_with fail
 refine (H2.out _ _ J1.out).mono ?_
 rintro e w2 ⟨a2, c2, rfl, D2, b1⟩
 clear f y0 y1 y2 y3 y4 y5 y6
 have HI2 := J1.out.go b1
 have D1 : Hid (SlsIn (fun g => w.heap.size + 2 ≤ g) w2 (.slice a1 nh c1) t.h) := D1'.out.below b1
 clear b1 J1 D1' H2
 have f := HI2.2.1.free 3
 obtain ⟨y0, y1, y2, y3, y4, y5, y6⟩ := HI2.2.1.sevenc
 have J2 : Hid (ClT w (w2.setCell ⟨w.heap.size, 3, none⟩ (.slice a2 no c2)) #[.int .i64 last, .int .i64 next, .slice a1 nh c1, .slice a2 no c2, .int .i64 first, .slice ga ng gc, .slice oa nO oc] (.slice ha nh hc) (.slice ba' no bc) (.slice ga ng gc) (.slice oa nO oc) t) := HI2.set 3 (.slice a2 no c2)
 have D1' : Hid (SlsIn (fun g => w.heap.size + 2 ≤ g) (w2.setCell ⟨w.heap.size, 3, none⟩ (.slice a2 no c2)) (.slice a1 nh c1) t.h) := sls_set D1.out 3 _
 have D2' : Hid (SlsIn (fun g => w.heap.size + 2 ≤ g) (w2.setCell ⟨w.heap.size, 3, none⟩ (.slice a2 no c2)) (.slice a2 no c2) t.o) := sls_set D2.out 3 _
 clear D1 D2 HI2
 go_wp2_with fail
 refine (H3.out _ _ J2.out).mono ?_
 rintro e w3 ⟨a3, c3, rfl, D3, b1⟩
 clear f y0 y1 y2 y3 y4 y5 y6
 have HI3 := J2.out.go b1
 have D1 : Hid (SlsIn (fun g => w.heap.size + 2 ≤ g) w3 (.slice a1 nh c1) t.h) := D1'.out.below b1
 have D2 : Hid (SlsIn (fun g => w.heap.size + 2 ≤ g) w3 (.slice a2 no c2) t.o) := D2'.out.below b1
 clear b1 J2 D1' D2' H3
 have f := HI3.2.1.free 5
 obtain ⟨y0, y1, y2, y3, y4, y5, y6⟩ := HI3.2.1.sevenc
 have J3 : Hid (ClT w (w3.setCell ⟨w.heap.size, 5, none⟩ (.slice a3 ng c3)) #[.int .i64 last, .int .i64 next, .slice a1 nh c1, .slice a2 no c2, .int .i64 first, .slice a3 ng c3, .slice oa nO oc] (.slice ha nh hc) (.slice ba' no bc) (.slice ga ng gc) (.slice oa nO oc) t) := HI3.set 5 (.slice a3 ng c3)
 have D1' : Hid (SlsIn (fun g => w.heap.size + 2 ≤ g) (w3.setCell ⟨w.heap.size, 5, none⟩ (.slice a3 ng c3)) (.slice a1 nh c1) t.h) := sls_set D1.out 5 _
 have D2' : Hid (SlsIn (fun g => w.heap.size + 2 ≤ g) (w3.setCell ⟨w.heap.size, 5, none⟩ (.slice a3 ng c3)) (.slice a2 no c2) t.o) := sls_set D2.out 5 _
 have D3' : Hid (GrsIn (fun g => w.heap.size + 2 ≤ g) (w3.setCell ⟨w.heap.size, 5, none⟩ (.slice a3 ng c3)) (.slice a3 ng c3) t.L) := grs_set D3.out 5 _
 clear D1 D2 D3 HI3
 go_wp2_with fail
 refine (H4.out _ _ J3.out).mono ?_
 rintro e w4 ⟨a4, c4, rfl, D4, b1⟩
 clear f y0 y1 y2 y3 y4 y5 y6
 have HI4 := J3.out.go b1
 have D1 : Hid (SlsIn (fun g => w.heap.size + 2 ≤ g) w4 (.slice a1 nh c1) t.h) := D1'.out.below b1
 have D2 : Hid (SlsIn (fun g => w.heap.size + 2 ≤ g) w4 (.slice a2 no c2) t.o) := D2'.out.below b1
 have D3 : Hid (GrsIn (fun g => w.heap.size + 2 ≤ g) w4 (.slice a3 ng c3) t.L) := D3'.out.below b1
 clear b1 J3 D1' D2' D3' H4
 have f := HI4.2.1.free 6
 obtain ⟨y0, y1, y2, y3, y4, y5, y6⟩ := HI4.2.1.sevenc
 obtain ⟨W, hW⟩ : ∃ W, W = w4.setCell ⟨w.heap.size, 6, none⟩ (.slice a4 nO c4) := ⟨_, rfl⟩
 have J4 : Hid (ClT w W #[.int .i64 last, .int .i64 next, .slice a1 nh c1, .slice a2 no c2, .int .i64 first, .slice a3 ng c3, .slice a4 nO c4] (.slice ha nh hc) (.slice ba' no bc) (.slice ga ng gc) (.slice oa nO oc) t) := by rw [hW]; exact HI4.set 6 (.slice a4 nO c4)
 have DD : Hid (TrIn (fun g => w.heap.size + 2 ≤ g) W (.slice a1 nh c1) (.slice a2 no c2) (.slice a3 ng c3) (.slice a4 nO c4) t) := by rw [hW]; exact ⟨sls_set D1.out 6 _, sls_set D2.out 6 _, grs_set D3.out 6 _, frs_set D4.out 6 _⟩
 obtain ⟨z0, z1, z2, z3, z4, z5, z6⟩ := HI4.2.2.1.sevenc
 have g0 := HI4.2.2.1.free 0
 have g1 := HI4.2.2.1.free 1
 have g2 := HI4.2.2.1.free 2
 have g3 := HI4.2.2.1.free 3
 have g4 := HI4.2.2.1.free 4
 have g5 := HI4.2.2.1.free 5
 have g6 := HI4.2.2.1.free 6
 clear D1 D2 D3 D4 HI4
 go_wp2_with fail
 clear f y0 y1 y2 y3 y4 y5 y6 z0 z1 z2 z3 z4 z5 z6 g0 g1 g2 g3 g4 g5 g6
 rw [← hW]
 clear hW
 have KZ := seven_out J4.out.2.2.1 (.int .i64 last) (.int .i64 next) (.slice a1 nh c1) (.slice a2 no c2) (.int .i64 first) (.slice a3 ng c3) (.slice a4 nO c4)
 have hsame : SameOn (fun g => w.heap.size + 2 ≤ g) W (((((((W.setCell ⟨w.heap.size + 1, 0, none⟩ (.int .i64 last)).setCell ⟨w.heap.size + 1, 1, none⟩ (.int .i64 next)).setCell ⟨w.heap.size + 1, 2, none⟩ (.slice a1 nh c1)).setCell ⟨w.heap.size + 1, 3, none⟩ (.slice a2 no c2)).setCell ⟨w.heap.size + 1, 4, none⟩ (.int .i64 first)).setCell ⟨w.heap.size + 1, 5, none⟩ (.slice a3 ng c3)).setCell ⟨w.heap.size + 1, 6, none⟩ (.slice a4 nO c4)) := by
  refine ⟨by simp, fun g _ hg => ?_⟩
  have hne : g ≠ w.heap.size + 1 := by omega
  iterate 6 refine (Below.heap_setCell _ _ _ _ (by exact hne)).trans ?_
  exact Below.heap_setCell _ _ _ _ (by exact hne)
 have RES := DD.out.to (S' := fun g => w.heap.size ≤ g) hsame (fun g _ hg => by omega)
 have BZ : Below w.heap.size w (((((((W.setCell ⟨w.heap.size + 1, 0, none⟩ (.int .i64 last)).setCell ⟨w.heap.size + 1, 1, none⟩ (.int .i64 next)).setCell ⟨w.heap.size + 1, 2, none⟩ (.slice a1 nh c1)).setCell ⟨w.heap.size + 1, 3, none⟩ (.slice a2 no c2)).setCell ⟨w.heap.size + 1, 4, none⟩ (.int .i64 first)).setCell ⟨w.heap.size + 1, 5, none⟩ (.slice a3 ng c3)).setCell ⟨w.heap.size + 1, 6, none⟩ (.slice a4 nO c4)) :=
  ((((((J4.out.1.setCell (by simp) _).setCell (by simp) _).setCell (by simp) _).setCell (by simp) _).setCell (by simp) _).setCell (by simp) _).setCell (by simp) _
 obtain ⟨Z, hZ⟩ : ∃ Z, Z = (((((((W.setCell ⟨w.heap.size + 1, 0, none⟩ (.int .i64 last)).setCell ⟨w.heap.size + 1, 1, none⟩ (.int .i64 next)).setCell ⟨w.heap.size + 1, 2, none⟩ (.slice a1 nh c1)).setCell ⟨w.heap.size + 1, 3, none⟩ (.slice a2 no c2)).setCell ⟨w.heap.size + 1, 4, none⟩ (.int .i64 first)).setCell ⟨w.heap.size + 1, 5, none⟩ (.slice a3 ng c3)).setCell ⟨w.heap.size + 1, 6, none⟩ (.slice a4 nO c4)) := ⟨_, rfl⟩
 rw [← hZ] at KZ RES BZ ⊢
 clear hZ hsame J4 DD
 obtain ⟨q0, q1, q2, q3, q4, q5, q6⟩ := KZ.sevenc
 exact bodyPost_ret (v := .agg #[.int .i64 last, .int .i64 next, .slice a1 nh c1, .slice a2 no c2, .int .i64 first, .slice a3 ng c3, .slice a4 nO c4]) (by simp [results, Tryz.results30, go_sem, q0, q1, q2, q3, q4, q5, q6]) rfl ⟨_, _, _, _, rfl, RES, BZ⟩
set_option maxHeartbeats 4000000 in
set_option maxRecDepth 100000 in
theorem trkBuilder_any (v : Value) (l : List Sk) (w : World) (hv : Sls w v l) (hlen : l.length ≤ 9223372036854775807) :
  Calls Tryz.prog 102 #[.agg #[v]] w fun e w' => e = .returned (.int .i64 (ochk l)) ∧ Below w.heap.size w w' := by
 obtain ⟨a, c, ev⟩ := hv.len
 obtain ⟨n, hn⟩ : ∃ n, n = l.length := ⟨_, rfl⟩
 rw [← hn] at ev
 obtain ⟨E, hE⟩ : ∃ E, E = ochk l := ⟨_, rfl⟩
 have hx : (Sk.mk 65536 Pk.zero).chk = 0 := by decide
 have HADD : Hid (∀ W : World, Below w.heap.size w W → Calls Tryz.prog 133 #[.agg #[v], .agg #[.int .i64 65536, .int .i64 0, .int .i64 0, .bool false, .bool false, .bool false, .string ⟨#[]⟩]] W fun e w' => ∃ oa on oc pa pn pc T K B, e = .returned (.tuple #[.agg #[.slice oa on oc], .agg #[.int .i64 T, .bool K, .slice pa pn pc], .bool B, .int .i64 E]) ∧ Below W.heap.size W w') := fun W hW => by
  refine (frameAdd_any v l ⟨65536, Pk.zero⟩ W (hv.below hW) hlen).mono ?_
  rintro e w' ⟨ov, pv, rfl, ⟨h1, h2, _⟩, h5⟩
  have e0 : addE l ⟨65536, Pk.zero⟩ = E := by
   unfold addE; rw [hE]
   by_cases h : ochk l = 0
   ·rw [if_pos h, hx, h]
   ·rw [if_neg h]
  obtain ⟨oa, oc, e1⟩ := h1.len
  obtain ⟨pa, pc, e2⟩ := h2.len
  subst e1 e2
  rw [e0]
  exact ⟨oa, _, oc, pa, _, pc, _, _, _, rfl, h5⟩
 rw [← hE]
 clear hE hx hn hv
 subst ev
 obtain ⟨W, hW⟩ : ∃ W, W = w.alloc (.cells #[.slice a n c] 26) := ⟨_, rfl⟩
 have HB : Hid (Below w.heap.size w W) := by rw [hW]; exact (Below.refl _ _).alloc (Nat.le_refl _) _
 go_enter Tryz.func102, Tryz.ntmps102
 go_wp2_with fail
 rw [← hW]
 clear hW
 refine (HADD.out W HB.out).mono ?_
 rintro e w1 ⟨oa, on, oc, pa, pn, pc, T, K, B, rfl, b1⟩
 have B1 : Hid (Below w.heap.size w w1) := HB.out.trans (b1.mono HB.out.size)
 obtain ⟨W2, hW2⟩ : ∃ W, W = (w1.alloc (.cells #[.slice oa on oc] 26)).alloc (.cells #[.int .i64 T, .bool K, .slice pa pn pc] 98) := ⟨_, rfl⟩
 have B2 : Hid (Below w.heap.size w W2) := by
  rw [hW2]; exact (B1.out.alloc B1.out.size _).alloc (by have := B1.out.size; simp; omega) _
 clear b1 B1
 go_wp2
 rw [← hW2]
 go_ret
 exact ⟨rfl, B2.out⟩
set_option maxHeartbeats 8000000 in
set_option maxRecDepth 100000 in
theorem trkCheck_any (S : Nat → Prop) (t : Tr) (hv bv gv ov : Value) (w : World) (hr : TrIn S w hv bv gv ov t) :
  Calls Tryz.prog 59 #[.agg #[.int .i64 t.last, .int .i64 t.next, hv, bv, .int .i64 t.first, gv, ov]] w fun e w' => e = .returned (.int .i64 t.chk) ∧ Below w.heap.size w w' := by
 obtain ⟨ha, hc, ba', bc, ga, gc, oa, oc, eh, eb, eg, eo⟩ := hr.slices
 obtain ⟨last, hlast⟩ : ∃ x, x = t.last := ⟨_, rfl⟩
 obtain ⟨next, hnext⟩ : ∃ x, x = t.next := ⟨_, rfl⟩
 obtain ⟨first, hfirst⟩ : ∃ x, x = t.first := ⟨_, rfl⟩
 obtain ⟨hn, hhn⟩ : ∃ x, x = t.h.length := ⟨_, rfl⟩
 obtain ⟨bn, hbn⟩ : ∃ x, x = t.o.length := ⟨_, rfl⟩
 obtain ⟨ln, hln⟩ : ∃ x, x = t.L.length := ⟨_, rfl⟩
 obtain ⟨lo, hlo⟩ : ∃ x, x = t.O.length := ⟨_, rfl⟩
 rw [← hhn] at eh
 rw [← hbn] at eb
 rw [← hln] at eg
 rw [← hlo] at eo
 obtain ⟨NB, hNB⟩ : ∃ b, b = Cn.isNB last := ⟨_, rfl⟩
 obtain ⟨EW, hEW⟩ : ∃ e : Int, e = if NB then 0 else 3 := ⟨_, rfl⟩
 have HEW : Hid (EW = if NB then 0 else 3) := hEW
 obtain ⟨BE, hBE⟩ : ∃ b, b = bchk next t.h := ⟨_, rfl⟩
 obtain ⟨OE, hOE⟩ : ∃ b, b = ochk t.o := ⟨_, rfl⟩
 obtain ⟨SE, hSE⟩ : ∃ b, b = stchk first t.L t.O := ⟨_, rfl⟩
 obtain ⟨C, hC⟩ : ∃ b, b = t.chk := ⟨_, rfl⟩
 have HC : Hid (C = if ¬ last = 0 ∧ NB = false then 3 else if BE = 0 then (if OE = 0 then (if SE = 0 then (if (last == 0) = (next == 0) then 0 else 4) else SE) else OE) else BE) := by
  show C = _
  rw [hC, hNB, hBE, hOE, hSE, hlast, hnext, hfirst]; rfl
 have HWR : Hid (∀ W : World, Calls Tryz.prog 100 #[.int .i64 last] W fun e w' => ∃ x, e = .returned (.tuple #[.int .i64 x, .int .i64 EW]) ∧ W = w') := fun W => by
  refine (wrap_any last W).mono ?_
  rintro e w' ⟨rfl, rfl⟩
  exact ⟨Cn.wrN last, by rw [hEW, hNB]; rfl, rfl⟩
 have HBC : Hid (∀ W : World, Below w.heap.size w W → Calls Tryz.prog 101 #[.agg #[.int .i64 next, hv]] W fun e w' => e = .returned (.int .i64 BE) ∧ Below W.heap.size W w') := fun W hW => by
  rw [hBE]; exact bufCheck_any next hv t.h W (hr.1.below hW).1 hr.1.2.1
 have HOC : Hid (∀ W : World, Below w.heap.size w W → Calls Tryz.prog 102 #[.agg #[bv]] W fun e w' => e = .returned (.int .i64 OE) ∧ Below W.heap.size W w') := fun W hW => by
  rw [hOE]; exact trkBuilder_any bv t.o W (hr.2.1.below hW).1 hr.2.1.2.1
 have HSC : Hid (∀ W : World, Below w.heap.size w W → Calls Tryz.prog 103 #[.agg #[.int .i64 first, gv, ov]] W fun e w' => e = .returned (.int .i64 SE) ∧ Below W.heap.size W w') := fun W hW => by
  rw [hSE]; exact storeCheck_any S first gv ov t.L t.O W (hr.2.2.1.below hW) (hr.2.2.2.below hW)
 rw [← hlast, ← hnext, ← hfirst, ← hC]
 clear hlast hnext hfirst hhn hbn hln hlo hNB hBE hOE hSE hC hr hEW
 subst eh eb eg eo
 obtain ⟨W0, hW0⟩ : ∃ W, W = w.alloc (.cells #[.int .i64 last, .int .i64 next, .slice ha hn hc, .slice ba' bn bc, .int .i64 first, .slice ga ln gc, .slice oa lo oc] 34) := ⟨_, rfl⟩
 have HS0 : Hid (Stay W0 (fun U => Blk U w.heap.size #[.int .i64 last, .int .i64 next, .slice ha hn hc, .slice ba' bn bc, .int .i64 first, .slice ga ln gc, .slice oa lo oc] 34 ∧ Below w.heap.size w U)) := by
  have hb : Below w.heap.size w W0 := by rw [hW0]; exact (Below.refl _ _).alloc (Nat.le_refl _) _
  exact (Blk.newE hW0).stay.and (below_stay hb hb.size)
 obtain ⟨y0, y1, y2, y3, y4, y5, y6⟩ := HS0.out.now.1.sevenc
 go_enter Tryz.func59, Tryz.ntmps59
 go_wp2_with fail
 rw [← hW0]
 clear hW0
 refine (HWR.out W0).mono ?_
 rintro e w1 ⟨x, rfl, rfl⟩
 have BW : Hid (Below w.heap.size w W0) := HS0.out.now.2
 by_cases h1 : ¬ last = 0 ∧ NB = false
 ·have hc3 : Hid (C = 3) := by show C = _; rw [HC.out, if_pos h1]
  obtain ⟨h1a, h1b⟩ := h1
  have he3 : EW = 3 := by rw [HEW.out, h1b]; rfl
  subst he3
  clear HS0
  go_wp2
  go_ret
  rw [hc3.out]
  exact ⟨rfl, BW.out⟩
 have HC2 : Hid (C = if BE = 0 then (if OE = 0 then (if SE = 0 then (if (last == 0) = (next == 0) then 0 else 4) else SE) else OE) else BE) := by show C = _; rw [HC.out, if_neg h1]
 have hcond : (EW = 0) ∨ (EW = 3 ∧ last = 0) := by
  cases hb : NB
  ·right
   refine ⟨by rw [HEW.out, hb]; rfl, ?_⟩
   by_cases h : last = 0
   ·exact h
   ·exact absurd ⟨h, hb⟩ h1
  ·left; rw [HEW.out, hb]; rfl
 clear HC h1 HEW
 go_upto_region 2 with fail
 go_cut [20] (fun s20 wc => s20 = .bool false ∧ wc = W0)
 case first =>
  rcases hcond with h | ⟨h, h'⟩
  ·subst h
   go_wp2_with fail
   go_meet
   case rel => exact ⟨rfl, rfl⟩
  ·subst h h'
   go_wp2_with fail
   go_meet
   case rel => exact ⟨rfl, rfl⟩
 case rest =>
  obtain ⟨rfl, rfl⟩ := hcut
  clear hcond HWR
  go_wp2_with fail
  refine (HBC.out _ BW.out).mono ?_
  rintro e w1 ⟨rfl, b1⟩
  have HS1 := Stay.go HS0 b1
  clear b1 HS0 BW y0 y1 y2 y3 y4 y5 y6
  have BW : Hid (Below w.heap.size w w1) := HS1.out.now.2
  by_cases h1 : BE = 0
  case neg =>
   have hc3 : Hid (C = BE) := by show C = _; rw [HC2.out, if_neg h1]
   clear HS1
   go_wp2
   go_ret
   rw [hc3.out]
   exact ⟨rfl, BW.out⟩
  have HC3 : Hid (C = if OE = 0 then (if SE = 0 then (if (last == 0) = (next == 0) then 0 else 4) else SE) else OE) := by show C = _; rw [HC2.out, if_pos h1]
  subst h1
  clear HC2
  obtain ⟨y0, y1, y2, y3, y4, y5, y6⟩ := HS1.out.now.1.sevenc
  go_wp2_with fail
  refine (HOC.out _ BW.out).mono ?_
  rintro e w2 ⟨rfl, b1⟩
  have HS2 := Stay.go HS1 b1
  clear b1 HS1 BW y0 y1 y2 y3 y4 y5 y6
  have BW : Hid (Below w.heap.size w w2) := HS2.out.now.2
  by_cases h1 : OE = 0
  case neg =>
   have hc3 : Hid (C = OE) := by show C = _; rw [HC3.out, if_neg h1]
   clear HS2
   go_wp2
   go_ret
   rw [hc3.out]
   exact ⟨rfl, BW.out⟩
  have HC4 : Hid (C = if SE = 0 then (if (last == 0) = (next == 0) then 0 else 4) else SE) := by show C = _; rw [HC3.out, if_pos h1]
  subst h1
  clear HC3
  obtain ⟨y0, y1, y2, y3, y4, y5, y6⟩ := HS2.out.now.1.sevenc
  go_wp2_with fail
  refine (HSC.out _ BW.out).mono ?_
  rintro e w3 ⟨rfl, b1⟩
  have HS3 := Stay.go HS2 b1
  clear b1 HS2 BW y0 y1 y2 y3 y4 y5 y6
  have BW : Hid (Below w.heap.size w w3) := HS3.out.now.2
  by_cases h1 : SE = 0
  case neg =>
   have hc3 : Hid (C = SE) := by show C = _; rw [HC4.out, if_neg h1]
   clear HS3
   go_wp2
   go_ret
   rw [hc3.out]
   exact ⟨rfl, BW.out⟩
  have HC5 : Hid (C = if (last == 0) = (next == 0) then 0 else 4) := by show C = _; rw [HC4.out, if_pos h1]
  subst h1
  clear HC4
  obtain ⟨y0, y1, y2, y3, y4, y5, y6⟩ := HS3.out.now.1.sevenc
  clear HS3
  cases hl : (last == 0) <;> cases hx : (next == 0)
  ·have hc3 : Hid (C = 0) := by show C = _; rw [HC5.out, hl, hx]; rfl
   go_wp2
   go_ret
   rw [hc3.out]
   exact ⟨rfl, BW.out⟩
  ·have hc3 : Hid (C = 4) := by show C = _; rw [HC5.out, hl, hx]; rfl
   go_wp2
   go_ret
   rw [hc3.out]
   exact ⟨rfl, BW.out⟩
  ·have hc3 : Hid (C = 4) := by show C = _; rw [HC5.out, hl, hx]; rfl
   go_wp2
   go_ret
   rw [hc3.out]
   exact ⟨rfl, BW.out⟩
  ·have hc3 : Hid (C = 0) := by show C = _; rw [HC5.out, hl, hx]; rfl
   go_wp2
   go_ret
   rw [hc3.out]
   exact ⟨rfl, BW.out⟩
set_option maxHeartbeats 4000000 in
set_option maxRecDepth 100000 in
theorem feedFn_any (S : Nat → Prop) (M sb : Nat) (t : Tr) (s : List UInt8) (w : World) (hsb : Blk w sb #[.string (ba s)] 9) (hT : TkB S M w t (0 : Nat)) (hk : t.chk = 0) (hS : ∀ g, w.heap.size ≤ g → S g) :
  Calls Tryz.prog 62 #[.pointer (some ⟨M, 0, none⟩), .pointer (some ⟨sb, 0, none⟩)] w fun e w' => e = .returned (.int .i64 (feedR t s).2.2) ∧ ((feedR t s).2.2 = 0 → TkB S M w' (feedR t s).1 ((feedR t s).2.1 : Nat)) ∧ Kept [M] w w' := by
 obtain ⟨h1, h2, h3, h4, _⟩ := Tr.chk_zero.1 hk
 obtain ⟨R, hR⟩ : ∃ R, R = feedR t s := ⟨_, rfl⟩
 have HF : Hid (Calls Tryz.prog 63 #[.pointer (some ⟨M, 0, none⟩), .string (ba s)] w fun e w' => e = .returned (.int .i64 R.2.2) ∧ Hid (R.2.2 = 0 → TkB S M w' R.1 (R.2.1 : Nat)) ∧ Hid (Kept [M] w w')) := by rw [hR]; exact tkFeed_any S M t s w hT h1 h2 ⟨h3, h4⟩ hS
 rw [← hR]
 have c0 := hsb.one
 clear h1 h2 h3 h4 hk hR hT hS hsb
 go_enter Tryz.func62, Tryz.ntmps62
 go_wp2_with fail
 refine HF.out.mono ?_
 rintro e w1 ⟨rfl, a1, a2⟩
 go_wp2
 go_ret
 exact ⟨rfl, a1.out, a2.out⟩
theorem zero_out {w : World} {A : Nat} {t : TypeId} (h : Blk w A #[.int .i64 0, .int .i64 0, .slice none 0 0, .slice none 0 0, .int .i64 0, .slice none 0 0, .slice none 0 0] t) :
  Blk (((((((w.setCell ⟨A, 0, none⟩ (.int .i64 0)).setCell ⟨A, 1, none⟩ (.int .i64 0)).setCell ⟨A, 2, none⟩ (.slice none 0 0)).setCell ⟨A, 3, none⟩ (.slice none 0 0)).setCell ⟨A, 4, none⟩ (.int .i64 0)).setCell ⟨A, 5, none⟩ (.slice none 0 0)).setCell ⟨A, 6, none⟩ (.slice none 0 0)) A #[.int .i64 0, .int .i64 0, .slice none 0 0, .slice none 0 0, .int .i64 0, .slice none 0 0, .slice none 0 0] t := seven_out h _ _ _ _ _ _ _
theorem seven_below {B A : Nat} {w V : World} (h : Below B w V) (hA : B ≤ A) (x0 x1 x2 x3 x4 x5 x6 : Value) : Below B w (((((((V.setCell ⟨A, 0, none⟩ x0).setCell ⟨A, 1, none⟩ x1).setCell ⟨A, 2, none⟩ x2).setCell ⟨A, 3, none⟩ x3).setCell ⟨A, 4, none⟩ x4).setCell ⟨A, 5, none⟩ x5).setCell ⟨A, 6, none⟩ x6) :=
 ((((((h.setCell (by exact hA) _).setCell (by exact hA) _).setCell (by exact hA) _).setCell (by exact hA) _).setCell (by exact hA) _).setCell (by exact hA) _).setCell (by exact hA) _
theorem seven_same {S : Nat → Prop} {A : Nat} {V : World} (hA : ¬ S A) (x0 x1 x2 x3 x4 x5 x6 : Value) : SameOn S V (((((((V.setCell ⟨A, 0, none⟩ x0).setCell ⟨A, 1, none⟩ x1).setCell ⟨A, 2, none⟩ x2).setCell ⟨A, 3, none⟩ x3).setCell ⟨A, 4, none⟩ x4).setCell ⟨A, 5, none⟩ x5).setCell ⟨A, 6, none⟩ x6) := by
 refine ⟨by simp, fun g _ hg => ?_⟩
 have hne : g ≠ A := fun e => hA (e ▸ hg)
 iterate 6 refine (Below.heap_setCell _ _ _ _ (by exact hne)).trans ?_
 exact Below.heap_setCell _ _ _ _ (by exact hne)
set_option maxHeartbeats 16000000 in
set_option maxRecDepth 100000 in
theorem trkChangeF_any (t : Tr) (s : List UInt8) (sb : Nat) (hv bv gv ov : Value) (w : World) (hr : TrIn (fun g => g < w.heap.size) w hv bv gv ov t) (hsb : Blk w sb #[.string (ba s)] 9) :
  Calls Tryz.prog 61 #[.agg #[.int .i64 t.last, .int .i64 t.next, hv, bv, .int .i64 t.first, gv, ov], .func (.func 62) #[] #[.pointer (some ⟨sb, 0, none⟩)]] w fun e w' => ∃ hv' bv' gv' ov', e = .returned (.tuple #[.agg #[.int .i64 (feedA t s).1.last, .int .i64 (feedA t s).1.next, hv', bv', .int .i64 (feedA t s).1.first, gv', ov'], .int .i64 (feedA t s).2.1, .int .i64 (feedA t s).2.2]) ∧ TrIn (fun g => w.heap.size ≤ g) w' hv' bv' gv' ov' (feedA t s).1 ∧ Below w.heap.size w w' := by
 obtain ⟨ha, hc, ba', bc, ga, gc, oa, oc, eh, eb, eg, eo⟩ := hr.slices
 obtain ⟨RT, RC, RE, hRR⟩ : ∃ RT RC RE, (RT, RC, RE) = feedR t s := ⟨_, _, _, rfl⟩
 obtain ⟨A, hA⟩ : ∃ A, A = feedA t s := ⟨_, rfl⟩
 obtain ⟨CK, hCK⟩ : ∃ c, c = t.chk := ⟨_, rfl⟩
 have HA : Hid (A = if CK = 0 then (RT, RC, RE) else (Tr.zero, 0, CK)) := by show A = _; rw [hA, hCK, hRR]; rfl
 have HHOW : Hid (CK = 0 → ∀ W M, Below w.heap.size w W → w.heap.size + 2 ≤ W.heap.size → TkB (fun g => w.heap.size + 2 ≤ g) M W t (0 : Nat) → Calls Tryz.prog 62 #[.pointer (some ⟨M, 0, none⟩), .pointer (some ⟨sb, 0, none⟩)] W fun e w' => e = .returned (.int .i64 RE) ∧ Hid (RE = 0 → TkB (fun g => w.heap.size + 2 ≤ g) M w' RT (RC : Nat)) ∧ Hid (Kept [M] W w')) := fun h W M hW hM hT => by
  refine (feedFn_any _ M sb t s W (hsb.below hW hsb.lt) hT (hCK ▸ h) (fun g hg => Nat.le_trans hM hg)).mono ?_
  rintro e w' ⟨rfl, a1, a2⟩
  rw [← hRR] at a1 ⊢
  exact ⟨rfl, a1, a2⟩
 have hbad : Hid (¬ RE = 0 → CK = 0 → RT = Tr.zero ∧ RC = 0) := fun h1 h2 => by
  have q := feedA_bad (t := t) (s := s)
  rw [← hA, HA.out, if_pos h2] at q
  exact q h1
 rw [← hA]
 clear hA
 have HCHK : Hid (∀ U C, ClT w U C hv bv gv ov t → Calls Tryz.prog 59 #[.agg #[.int .i64 t.last, .int .i64 t.next, hv, bv, .int .i64 t.first, gv, ov]] U fun e w' => e = .returned (.int .i64 CK) ∧ Below U.heap.size U w') := fun U C hU => by
  rw [hCK]; exact trkCheck_any _ t hv bv gv ov U hU.2.2.2.2
 have HCL : Hid (CK = 0 → ∀ U C, ClT w U C hv bv gv ov t → Calls Tryz.prog 30 #[.agg #[.int .i64 t.last, .int .i64 t.next, hv, bv, .int .i64 t.first, gv, ov]] U fun e w' => ∃ a1 n1 c1 a2 n2 c2 a3 n3 c3 a4 n4 c4, e = .returned (.agg #[.int .i64 t.last, .int .i64 t.next, .slice a1 n1 c1, .slice a2 n2 c2, .int .i64 t.first, .slice a3 n3 c3, .slice a4 n4 c4]) ∧ Hid (TrIn (fun g => w.heap.size + 2 ≤ g) w' (.slice a1 n1 c1) (.slice a2 n2 c2) (.slice a3 n3 c3) (.slice a4 n4 c4) t) ∧ Below U.heap.size U w') := fun h U C hU => by
  refine (cloneTrack_any _ t hv bv gv ov U hU.2.2.2.2 (hCK ▸ h)).mono ?_
  rintro e w' ⟨x1, x2, x3, x4, rfl, q, b⟩
  obtain ⟨a1, c1, a2, c2, a3, c3, a4, c4, e1, e2, e3, e4⟩ := q.slices
  subst e1 e2 e3 e4
  exact ⟨_, _, _, _, _, _, _, _, _, _, _, _, rfl, q.mono fun g _ hg => Nat.le_trans hU.2.2.2.1 hg, b⟩
 obtain ⟨nh, hnh⟩ : ∃ n, n = t.h.length := ⟨_, rfl⟩
 obtain ⟨no, hno⟩ : ∃ n, n = t.o.length := ⟨_, rfl⟩
 obtain ⟨ng, hng⟩ : ∃ n, n = t.L.length := ⟨_, rfl⟩
 obtain ⟨nO, hnO⟩ : ∃ n, n = t.O.length := ⟨_, rfl⟩
 rw [← hnh] at eh
 rw [← hno] at eb
 rw [← hng] at eg
 rw [← hnO] at eo
 obtain ⟨last, hla⟩ : ∃ x, x = t.last := ⟨_, rfl⟩
 obtain ⟨next, hne⟩ : ∃ x, x = t.next := ⟨_, rfl⟩
 obtain ⟨first, hfi⟩ : ∃ x, x = t.first := ⟨_, rfl⟩
 have HTK : Hid (∀ W M a1 n1 c1 a2 n2 c2 a3 n3 c3 a4 n4 c4, Blk W M #[.int .i64 last, .int .i64 next, .slice a1 n1 c1, .slice a2 n2 c2, .int .i64 first, .slice a3 n3 c3, .slice a4 n4 c4, .int .i64 0] 155 → TrIn (fun g => w.heap.size + 2 ≤ g ∧ g ≠ M) W (.slice a1 n1 c1) (.slice a2 n2 c2) (.slice a3 n3 c3) (.slice a4 n4 c4) t → TkB (fun g => w.heap.size + 2 ≤ g) M W t (0 : Nat)) := fun W M a1 n1 c1 a2 n2 c2 a3 n3 c3 a4 n4 c4 h1 h3 => by
  rw [hla, hne, hfi] at h1
  exact ⟨_, _, _, _, h1, h3⟩
 rw [← hla, ← hne, ← hfi] at HCHK HCL ⊢
 have HI : Hid (ClT w ((w.alloc (.cells #[.int .i64 last, .int .i64 next, hv, bv, .int .i64 first, gv, ov] 34)).alloc (.cells #[.int .i64 0, .int .i64 0, .slice none 0 0, .slice none 0 0, .int .i64 0, .slice none 0 0, .slice none 0 0] 34)) #[.int .i64 last, .int .i64 next, hv, bv, .int .i64 first, gv, ov] hv bv gv ov t) := by
  have b1 : Below w.heap.size w (w.alloc (.cells #[.int .i64 last, .int .i64 next, hv, bv, .int .i64 first, gv, ov] 34)) := (Below.refl _ _).alloc (Nat.le_refl _) _
  have k1 := Blk.new w #[.int .i64 last, .int .i64 next, hv, bv, .int .i64 first, gv, ov] 34
  have k2 := Blk.new (w.alloc (.cells #[.int .i64 last, .int .i64 next, hv, bv, .int .i64 first, gv, ov] 34)) #[.int .i64 0, .int .i64 0, .slice none 0 0, .slice none 0 0, .int .i64 0, .slice none 0 0, .slice none 0 0] 34
  have b2 : Below w.heap.size w ((w.alloc (.cells #[.int .i64 last, .int .i64 next, hv, bv, .int .i64 first, gv, ov] 34)).alloc (.cells #[.int .i64 0, .int .i64 0, .slice none 0 0, .slice none 0 0, .int .i64 0, .slice none 0 0, .slice none 0 0] 34)) := b1.alloc (by simp) _
  exact ⟨b2, k1.below ((Below.refl _ _).alloc (Nat.le_refl _) _) k1.lt, by simpa using k2, by simp, hr.below b2⟩
 clear hla hne hfi hr hnh hno hng hnO hsb hRR hCK
 subst eh eb eg eo
 go_enter Tryz.func61, Tryz.ntmps61
 obtain ⟨W, hW⟩ : ∃ W, W = (w.alloc (.cells #[.int .i64 last, .int .i64 next, .slice ha nh hc, .slice ba' no bc, .int .i64 first, .slice ga ng gc, .slice oa nO oc] 34)).alloc (.cells #[.int .i64 0, .int .i64 0, .slice none 0 0, .slice none 0 0, .int .i64 0, .slice none 0 0, .slice none 0 0] 34) := ⟨_, rfl⟩
 rw [← hW] at HI
 go_wp2_with fail
 rw [← hW]
 clear hW
 refine (HCHK.out W _ HI.out).mono ?_
 rintro e w1 ⟨rfl, b1⟩
 have HI1 : Hid (ClT w w1 #[.int .i64 last, .int .i64 next, .slice ha nh hc, .slice ba' no bc, .int .i64 first, .slice ga ng gc, .slice oa nO oc] (.slice ha nh hc) (.slice ba' no bc) (.slice ga ng gc) (.slice oa nO oc) t) := HI.out.go b1
 clear b1 HI HCHK W
 obtain ⟨y0, y1, y2, y3, y4, y5, y6⟩ := HI1.out.2.1.sevenc
 by_cases h1 : CK = 0
 case neg =>
  have KB : Hid (Blk w1 (w.heap.size + 1) #[.int .i64 0, .int .i64 0, .slice none 0 0, .slice none 0 0, .int .i64 0, .slice none 0 0, .slice none 0 0] 34) := HI1.out.2.2.1
  have BW : Hid (Below w.heap.size w w1) := HI1.out.1
  have HAe : Hid (A = (Tr.zero, 0, CK)) := by show A = _; rw [HA.out, if_neg h1]
  obtain ⟨z0, z1, z2, z3, z4, z5, z6⟩ := KB.out.sevenc
  have g0 := KB.out.free 0
  have g1 := KB.out.free 1
  have g2 := KB.out.free 2
  have g3 := KB.out.free 3
  have g4 := KB.out.free 4
  have g5 := KB.out.free 5
  have g6 := KB.out.free 6
  clear HHOW hbad HCL HTK HA HI1 y0 y1 y2 y3 y4 y5 y6
  go_wp2_with fail
  clear z0 z1 z2 z3 z4 z5 z6 g0 g1 g2 g3 g4 g5 g6
  have KZ := zero_out KB.out
  have BZ := seven_below BW.out (Nat.le_succ w.heap.size) (.int .i64 0) (.int .i64 0) (.slice none 0 0) (.slice none 0 0) (.int .i64 0) (.slice none 0 0) (.slice none 0 0)
  clear KB BW
  obtain ⟨Z, hZ⟩ : ∃ Z, Z = (((((((w1.setCell ⟨w.heap.size + 1, 0, none⟩ (.int .i64 0)).setCell ⟨w.heap.size + 1, 1, none⟩ (.int .i64 0)).setCell ⟨w.heap.size + 1, 2, none⟩ (.slice none 0 0)).setCell ⟨w.heap.size + 1, 3, none⟩ (.slice none 0 0)).setCell ⟨w.heap.size + 1, 4, none⟩ (.int .i64 0)).setCell ⟨w.heap.size + 1, 5, none⟩ (.slice none 0 0)).setCell ⟨w.heap.size + 1, 6, none⟩ (.slice none 0 0)) := ⟨_, rfl⟩
  rw [← hZ] at KZ BZ ⊢
  clear hZ
  obtain ⟨q0, q1, q2, q3, q4, q5, q6⟩ := KZ.sevenc
  exact bodyPost_ret (v := .tuple #[.agg #[.int .i64 0, .int .i64 0, .slice none 0 0, .slice none 0 0, .int .i64 0, .slice none 0 0, .slice none 0 0], .int .i64 0, .int .i64 CK]) (by simp [results, Tryz.results61, go_sem, q0, q1, q2, q3, q4, q5, q6]) rfl ⟨_, _, _, _, by rw [HAe.out]; rfl, by rw [HAe.out]; exact TrIn.zero _ _, BZ⟩
 subst h1
 have HA2 : Hid (A = (RT, RC, RE)) := by show A = _; rw [HA.out, if_pos rfl]
 clear HA
 go_wp2_with fail
 refine (HCL.out (by first | rfl | trivial) w1 _ HI1.out).mono ?_
 rintro e w2 ⟨a1, n1, c1, a2, n2, c2, a3, n3, c3, a4, n4, c4, rfl, HR2, b1⟩
 have HI2 : Hid (ClT w w2 #[.int .i64 last, .int .i64 next, .slice ha nh hc, .slice ba' no bc, .int .i64 first, .slice ga ng gc, .slice oa nO oc] (.slice ha nh hc) (.slice ba' no bc) (.slice ga ng gc) (.slice oa nO oc) t) := HI1.out.go b1
 clear b1 HI1 HCL y0 y1 y2 y3 y4 y5 y6
 obtain ⟨W3, hW3⟩ : ∃ W, W = w2.alloc (.cells #[.int .i64 last, .int .i64 next, .slice a1 n1 c1, .slice a2 n2 c2, .int .i64 first, .slice a3 n3 c3, .slice a4 n4 c4, .int .i64 0] 155) := ⟨_, rfl⟩
 have hsz2 : w.heap.size + 2 ≤ w2.heap.size := HI2.out.2.2.2.1
 have HTK3 : Hid (TkB (fun g => w.heap.size + 2 ≤ g) w2.heap.size W3 t (0 : Nat)) := HTK.out W3 w2.heap.size a1 n1 c1 a2 n2 c2 a3 n3 c3 a4 n4 c4 (Blk.newE hW3) (by rw [hW3]; exact HR2.out.to (SameOn.alloc _) (fun g hg h => ⟨by omega, by omega⟩))
 have KB3 : Hid (Blk W3 (w.heap.size + 1) #[.int .i64 0, .int .i64 0, .slice none 0 0, .slice none 0 0, .int .i64 0, .slice none 0 0, .slice none 0 0] 34) := by rw [hW3]; exact HI2.out.2.2.1.below ((Below.refl _ _).alloc (Nat.le_refl _) _) HI2.out.2.2.1.lt
 have BW3 : Hid (Below w.heap.size w W3) := by rw [hW3]; exact HI2.out.1.alloc HI2.out.1.size _
 have hsz3 : w.heap.size + 2 ≤ W3.heap.size := by rw [hW3]; simp; omega
 clear HTK HR2 HI2
 go_wp2_with fail
 rw [← hW3]
 clear hW3
 refine (HHOW.out (by first | rfl | trivial) W3 w2.heap.size BW3.out hsz3 HTK3.out).mono ?_
 rintro e w4 ⟨rfl, HT4, HK4⟩
 have KB : Hid (Blk w4 (w.heap.size + 1) #[.int .i64 0, .int .i64 0, .slice none 0 0, .slice none 0 0, .int .i64 0, .slice none 0 0, .slice none 0 0] 34) := KB3.out.kept HK4.out (by simp; omega)
 have BW : Hid (Below w.heap.size w w4) := BW3.out.trans (HK4.out.toBelow BW3.out.size (fun k hk => by simp at hk; omega))
 clear HHOW HTK3 KB3 BW3 HK4
 by_cases h1 : RE = 0
 case neg =>
  obtain ⟨q1, q2⟩ := hbad.out h1 (by first | rfl | trivial)
  have HAe : Hid (A = (Tr.zero, 0, RE)) := by show A = _; rw [HA2.out, q1, q2]
  clear q1 q2 HA2 hbad HT4
  obtain ⟨z0, z1, z2, z3, z4, z5, z6⟩ := KB.out.sevenc
  have g0 := KB.out.free 0
  have g1 := KB.out.free 1
  have g2 := KB.out.free 2
  have g3 := KB.out.free 3
  have g4 := KB.out.free 4
  have g5 := KB.out.free 5
  have g6 := KB.out.free 6
  go_wp2_with fail
  clear z0 z1 z2 z3 z4 z5 z6 g0 g1 g2 g3 g4 g5 g6
  have KZ := zero_out KB.out
  have BZ := seven_below BW.out (Nat.le_succ w.heap.size) (.int .i64 0) (.int .i64 0) (.slice none 0 0) (.slice none 0 0) (.int .i64 0) (.slice none 0 0) (.slice none 0 0)
  clear KB BW
  obtain ⟨Z, hZ⟩ : ∃ Z, Z = (((((((w4.setCell ⟨w.heap.size + 1, 0, none⟩ (.int .i64 0)).setCell ⟨w.heap.size + 1, 1, none⟩ (.int .i64 0)).setCell ⟨w.heap.size + 1, 2, none⟩ (.slice none 0 0)).setCell ⟨w.heap.size + 1, 3, none⟩ (.slice none 0 0)).setCell ⟨w.heap.size + 1, 4, none⟩ (.int .i64 0)).setCell ⟨w.heap.size + 1, 5, none⟩ (.slice none 0 0)).setCell ⟨w.heap.size + 1, 6, none⟩ (.slice none 0 0)) := ⟨_, rfl⟩
  rw [← hZ] at KZ BZ ⊢
  clear hZ
  obtain ⟨q0, q1, q2, q3, q4, q5, q6⟩ := KZ.sevenc
  exact bodyPost_ret (v := .tuple #[.agg #[.int .i64 0, .int .i64 0, .slice none 0 0, .slice none 0 0, .int .i64 0, .slice none 0 0, .slice none 0 0], .int .i64 0, .int .i64 RE]) (by simp [results, Tryz.results61, go_sem, q0, q1, q2, q3, q4, q5, q6]) rfl ⟨_, _, _, _, by rw [HAe.out]; rfl, by rw [HAe.out]; exact TrIn.zero _ _, BZ⟩
 clear hbad
 obtain ⟨v1, v2, v3, v4, K8, TR⟩ := HT4.out h1
 subst h1
 clear HT4
 obtain ⟨b1, d1, b2, d2, b3, d3, b4, d4, e1, e2, e3, e4⟩ := TR.slices
 obtain ⟨m1, hm1⟩ : ∃ n, n = RT.h.length := ⟨_, rfl⟩
 obtain ⟨m2, hm2⟩ : ∃ n, n = RT.o.length := ⟨_, rfl⟩
 obtain ⟨m3, hm3⟩ : ∃ n, n = RT.L.length := ⟨_, rfl⟩
 obtain ⟨m4, hm4⟩ : ∃ n, n = RT.O.length := ⟨_, rfl⟩
 rw [← hm1] at e1
 rw [← hm2] at e2
 rw [← hm3] at e3
 rw [← hm4] at e4
 subst e1 e2 e3 e4
 obtain ⟨la2, hl2⟩ : ∃ x, x = RT.last := ⟨_, rfl⟩
 obtain ⟨ne2, hn2⟩ : ∃ x, x = RT.next := ⟨_, rfl⟩
 obtain ⟨fi2, hf2⟩ : ∃ x, x = RT.first := ⟨_, rfl⟩
 obtain ⟨rc, hrc⟩ : ∃ x, x = (RC : Int) := ⟨_, rfl⟩
 rw [← hl2, ← hn2, ← hf2, ← hrc] at K8
 obtain ⟨V, hV⟩ : ∃ V, V = { w4 with drawn := w4.drawn + 1 } := ⟨_, rfl⟩
 obtain ⟨Z, hZ⟩ : ∃ Z, Z = (((((((V.setCell ⟨w.heap.size + 1, 0, none⟩ (.int .i64 la2)).setCell ⟨w.heap.size + 1, 1, none⟩ (.int .i64 ne2)).setCell ⟨w.heap.size + 1, 2, none⟩ (.slice b1 m1 d1)).setCell ⟨w.heap.size + 1, 3, none⟩ (.slice b2 m2 d2)).setCell ⟨w.heap.size + 1, 4, none⟩ (.int .i64 fi2)).setCell ⟨w.heap.size + 1, 5, none⟩ (.slice b3 m3 d3)).setCell ⟨w.heap.size + 1, 6, none⟩ (.slice b4 m4 d4)) := ⟨_, rfl⟩
 have hne : w2.heap.size ≠ w.heap.size + 1 := by omega
 have KMV : Hid (Blk V w2.heap.size #[.int .i64 la2, .int .i64 ne2, .slice b1 m1 d1, .slice b2 m2 d2, .int .i64 fi2, .slice b3 m3 d3, .slice b4 m4 d4, .int .i64 rc] 155) := by rw [hV]; exact K8.drew
 have KBV : Hid (Blk V (w.heap.size + 1) #[.int .i64 0, .int .i64 0, .slice none 0 0, .slice none 0 0, .int .i64 0, .slice none 0 0, .slice none 0 0] 34) := by rw [hV]; exact KB.out.drew
 have hsame : SameOn (fun g => g ≠ w.heap.size + 1) V Z := by rw [hZ]; exact seven_same (by simp) _ _ _ _ _ _ _
 have KMZ : Hid (Blk Z w2.heap.size #[.int .i64 la2, .int .i64 ne2, .slice b1 m1 d1, .slice b2 m2 d2, .int .i64 fi2, .slice b3 m3 d3, .slice b4 m4 d4, .int .i64 rc] 155) := (hsame.2 _ KMV.out.lt hne).trans KMV.out
 have KBZ : Hid (Blk Z (w.heap.size + 1) #[.int .i64 la2, .int .i64 ne2, .slice b1 m1 d1, .slice b2 m2 d2, .int .i64 fi2, .slice b3 m3 d3, .slice b4 m4 d4] 34) := by rw [hZ]; exact seven_out KBV.out _ _ _ _ _ _ _
 have HBZ : Hid (Below w.heap.size w Z) := by rw [hZ]; exact seven_below (by rw [hV]; exact BW.out.drew) (Nat.le_succ _) _ _ _ _ _ _ _
 have HEQ : Hid (Ending.returned (Value.tuple #[.agg #[.int .i64 la2, .int .i64 ne2, .slice b1 m1 d1, .slice b2 m2 d2, .int .i64 fi2, .slice b3 m3 d3, .slice b4 m4 d4], .int .i64 rc, .int .i64 0]) = Ending.returned (Value.tuple #[.agg #[.int .i64 A.1.last, .int .i64 A.1.next, .slice b1 m1 d1, .slice b2 m2 d2, .int .i64 A.1.first, .slice b3 m3 d3, .slice b4 m4 d4], .int .i64 A.2.1, .int .i64 A.2.2])) := by rw [hl2, hn2, hf2, hrc]; show _ = _; rw [HA2.out]
 have HTR : Hid (TrIn (fun g => w.heap.size ≤ g) Z (.slice b1 m1 d1) (.slice b2 m2 d2) (.slice b3 m3 d3) (.slice b4 m4 d4) A.1) := by
  show TrIn _ _ _ _ _ _ _
  rw [HA2.out]
  have q : TrIn (fun g => w.heap.size + 2 ≤ g ∧ g ≠ w2.heap.size) V (.slice b1 m1 d1) (.slice b2 m2 d2) (.slice b3 m3 d3) (.slice b4 m4 d4) RT := by rw [hV]; exact TR.to ⟨Nat.le_refl _, fun g _ _ => rfl⟩ (fun g _ h => h)
  exact q.to (hsame.mono fun g hg => by have := hg.1; omega) (fun g _ hg => by have := hg.1; omega)
 clear HA2 hl2 hn2 hf2 hrc hm1 hm2 hm3 hm4 K8 TR hsame
 go_wp2_with fail
 refine region_chainG (by kernel_rfl) (by kernel_rfl) [.quiet (.pointer (some ⟨w2.heap.size, 0, none⟩)) 3, .quiet (.agg #[.int .i64 la2, .int .i64 ne2, .slice b1 m1 d1, .slice b2 m2 d2, .int .i64 fi2, .slice b3 m3 d3, .slice b4 m4 d4]) 3, .quiet (.pointer (some ⟨w2.heap.size, 7, none⟩)) 3, .quiet (.int .i64 rc) 3, .step 0, .step 1, .step 2] [4, 5, 6] (by kernel_rfl)
  (fun s r w' => match s with
   | 0 => w' = V
   | 1 => w' = Z
   | 2 => w' = Z ∧ r 1 = .int .i64 rc
   | _ => w' = Z ∧ r 1 = .int .i64 rc ∧ r 2 = .int .i64 0
   ) hV.symm ?step ?fin
 case step =>
  intro i o ho a' w' s r hI hfree hvals
  have kx : Blk w' w2.heap.size #[.int .i64 la2, .int .i64 ne2, .slice b1 m1 d1, .slice b2 m2 d2, .int .i64 fi2, .slice b3 m3 d3, .slice b4 m4 d4, .int .i64 rc] 155 := by
   match s, hI with
   | 0, hI => rw [show w' = V from hI]; exact KMV.out
   | 1, hI => rw [show w' = Z from hI]; exact KMZ.out
   | 2, hI => rw [hI.1]; exact KMZ.out
   | n + 3, hI => rw [hI.1]; exact KMZ.out
  obtain ⟨a0, a1, a2, a3, a4, a5, a6, a7⟩ := kx.eight
  match i, ho with
  | 0, ho =>
   simp at ho; subst ho
   have e8 : a'.eval (.tmp 8) = .pointer (some ⟨w2.heap.size, 0, none⟩) := (hfree 8 (by kernel_rfl)).trans rfl
   show s ≤ 3 → _
   intro hs
   refine .inl ⟨rfl, ?_⟩
   generalize a'.eval = ρ at *
   simp [execOp, go_sem, e8]
  | 1, ho =>
   simp at ho; subst ho
   have e25 : a'.eval (.tmp 25) = .pointer (some ⟨w2.heap.size, 0, none⟩) := hvals 0 _ _ (by kernel_rfl) rfl rfl
   show s ≤ 3 → _
   intro hs
   refine .inl ⟨rfl, ?_⟩
   generalize a'.eval = ρ at *
   simp [execOp, go_sem, e25, a0, a1, a2, a3, a4, a5, a6]
  | 2, ho =>
   simp at ho; subst ho
   have e8 : a'.eval (.tmp 8) = .pointer (some ⟨w2.heap.size, 0, none⟩) := (hfree 8 (by kernel_rfl)).trans rfl
   show s ≤ 3 → _
   intro hs
   refine .inl ⟨rfl, ?_⟩
   generalize a'.eval = ρ at *
   simp [execOp, go_sem, e8]
  | 3, ho =>
   simp at ho; subst ho
   have e27 : a'.eval (.tmp 27) = .pointer (some ⟨w2.heap.size, 7, none⟩) := hvals 2 _ _ (by kernel_rfl) rfl rfl
   show s ≤ 3 → _
   intro hs
   refine .inl ⟨rfl, ?_⟩
   generalize a'.eval = ρ at *
   simp [execOp, go_sem, e27, a7]
  | 4, ho =>
   simp at ho; subst ho
   have e4 : a'.eval (.tmp 4) = .pointer (some ⟨w.heap.size + 1, 0, none⟩) := (hfree 4 (by kernel_rfl)).trans rfl
   have e26 : a'.eval (.tmp 26) = .agg #[.int .i64 la2, .int .i64 ne2, .slice b1 m1 d1, .slice b2 m2 d2, .int .i64 fi2, .slice b3 m3 d3, .slice b4 m4 d4] := hvals 1 _ _ (by kernel_rfl) rfl rfl
   show s = 0 → _ ∧ Oper.wp _ _ _ _ _ _
   intro hs
   subst hs
   refine ⟨rfl, ?_⟩
   have hw : w' = V := hI
   obtain ⟨t0, t1, t2, t3, t4, t5, t6⟩ := KBV.out.sevenc
   have fr := KBV.out.free
   refine oper_wp_skip (w' := Z) ?_ ⟨_, rfl, rfl⟩
   generalize a'.eval = ρ at *
   rw [hw, hZ]
   simp [execOp, go_sem, e4, e26, t0, t1, t2, t3, t4, t5, t6, fr]
  | 5, ho =>
   simp at ho; subst ho
   have e28 : a'.eval (.tmp 28) = .int .i64 rc := hvals 3 _ _ (by kernel_rfl) rfl rfl
   show s = 1 → _ ∧ Oper.wp _ _ _ _ _ _
   intro hs
   subst hs
   refine ⟨rfl, ?_⟩
   refine oper_wp_ok (v := .int .i64 rc) (w' := w') ?_ ⟨_, rfl, hI, updR_at _ _ _⟩
   generalize a'.eval = ρ at *
   simp [execOp, go_sem, e28]
  | 6, ho =>
   simp at ho; subst ho
   have ec0 : a'.eval (.const (.int .i64 0)) = .int .i64 0 := rfl
   show s = 2 → _ ∧ Oper.wp _ _ _ _ _ _
   intro hs
   subst hs
   refine ⟨rfl, ?_⟩
   obtain ⟨c0, c1⟩ := hI
   refine oper_wp_ok (v := .int .i64 0) (w' := w') ?_ ⟨_, rfl, c0, by rw [updR_ne (by omega)]; exact c1, updR_at _ _ _⟩
   generalize a'.eval = ρ at *
   simp [execOp, go_sem, ec0]
 case fin =>
  rintro r V2 ⟨d0, d1, d2⟩
  simp only [putC, Ck.out, d1, d2, Act.put, List.setIfInBounds_toArray, List.set_cons_succ, List.set_cons_zero]
  rw [d0]
  obtain ⟨u0, u1, u2, u3, u4, u5, u6⟩ := KBZ.out.sevenc
  clear d0 d1 d2 r V2 KMV KMZ KBV KBZ hV hZ V
  go_wp2_with fail
  exact bodyPost_ret (v := .tuple #[.agg #[.int .i64 la2, .int .i64 ne2, .slice b1 m1 d1, .slice b2 m2 d2, .int .i64 fi2, .slice b3 m3 d3, .slice b4 m4 d4], .int .i64 rc, .int .i64 0]) (by simp [results, Tryz.results61, go_sem, u0, u1, u2, u3, u4, u5, u6]) rfl ⟨_, _, _, _, HEQ.out, HTR.out, HBZ.out⟩
set_option maxHeartbeats 8000000 in
set_option maxRecDepth 100000 in
theorem trkFeed_any (S : Nat → Prop) (t : Tr) (s : List UInt8) (hv bv gv ov : Value) (w : World) (hr : TrIn S w hv bv gv ov t) :
  Calls Tryz.prog 23 #[.agg #[.int .i64 t.last, .int .i64 t.next, hv, bv, .int .i64 t.first, gv, ov], .string (ba s)] w fun e w' => ∃ hv' bv' gv' ov', e = .returned (.tuple #[.agg #[.int .i64 (feedA t s).1.last, .int .i64 (feedA t s).1.next, hv', bv', .int .i64 (feedA t s).1.first, gv', ov'], .int .i64 (feedA t s).2.1, .int .i64 (feedA t s).2.2]) ∧ TrIn (fun g => w.heap.size ≤ g) w' hv' bv' gv' ov' (feedA t s).1 ∧ Below w.heap.size w w' := by
 obtain ⟨ha, hc, ba', bc, ga, gc, oa, oc, eh, eb, eg, eo⟩ := hr.slices
 obtain ⟨A, hA⟩ : ∃ A, A = feedA t s := ⟨_, rfl⟩
 obtain ⟨N, hN⟩ : ∃ n, n = w.heap.size + 1 + 1 + 1 := ⟨_, rfl⟩
 have HC : Hid (∀ U, Below w.heap.size w U → N ≤ U.heap.size → Blk U (w.heap.size + 1) #[.string (ba s)] 9 → Calls Tryz.prog 61 #[.agg #[.int .i64 t.last, .int .i64 t.next, hv, bv, .int .i64 t.first, gv, ov], .func (.func 62) #[] #[.pointer (some ⟨w.heap.size + 1, 0, none⟩)]] U fun e w' => ∃ la2 ne2 b1 m1 d1 b2 m2 d2 fi2 b3 m3 d3 b4 m4 d4 rc re, e = .returned (.tuple #[.agg #[.int .i64 la2, .int .i64 ne2, .slice b1 m1 d1, .slice b2 m2 d2, .int .i64 fi2, .slice b3 m3 d3, .slice b4 m4 d4], .int .i64 rc, .int .i64 re]) ∧ Hid (la2 = A.1.last ∧ ne2 = A.1.next ∧ fi2 = A.1.first ∧ rc = (A.2.1 : Int) ∧ re = A.2.2 ∧ TrIn (fun g => N ≤ g) w' (.slice b1 m1 d1) (.slice b2 m2 d2) (.slice b3 m3 d3) (.slice b4 m4 d4) A.1) ∧ Below U.heap.size U w') := fun U hU hn hs => by
  refine (trkChangeF_any t s _ hv bv gv ov U ((hr.below hU).to (S' := fun g => g < U.heap.size) (SameOn.refl _ _) (fun g hg _ => hg)) hs).mono ?_
  rintro e w' ⟨x1, x2, x3, x4, rfl, q, b⟩
  rw [← hA] at q ⊢
  obtain ⟨a1, c1, a2, c2, a3, c3, a4, c4, e1, e2, e3, e4⟩ := q.slices
  subst e1 e2 e3 e4
  exact ⟨_, _, _, _, _, _, _, _, _, _, _, _, _, _, _, _, _, rfl, ⟨rfl, rfl, rfl, rfl, rfl, q.mono fun g _ hg => Nat.le_trans hn hg⟩, b⟩
 rw [← hA]
 obtain ⟨nh, hnh⟩ : ∃ n, n = t.h.length := ⟨_, rfl⟩
 obtain ⟨no, hno⟩ : ∃ n, n = t.o.length := ⟨_, rfl⟩
 obtain ⟨ng, hng⟩ : ∃ n, n = t.L.length := ⟨_, rfl⟩
 obtain ⟨nO, hnO⟩ : ∃ n, n = t.O.length := ⟨_, rfl⟩
 rw [← hnh] at eh
 rw [← hno] at eb
 rw [← hng] at eg
 rw [← hnO] at eo
 obtain ⟨last, hla⟩ : ∃ x, x = t.last := ⟨_, rfl⟩
 obtain ⟨next, hne⟩ : ∃ x, x = t.next := ⟨_, rfl⟩
 obtain ⟨first, hfi⟩ : ∃ x, x = t.first := ⟨_, rfl⟩
 rw [← hla, ← hne, ← hfi] at HC ⊢
 clear hla hne hfi hr hnh hno hng hnO hA
 subst eh eb eg eo
 obtain ⟨W, hW⟩ : ∃ W, W = ((w.alloc (.cells #[.int .i64 last, .int .i64 next, .slice ha nh hc, .slice ba' no bc, .int .i64 first, .slice ga ng gc, .slice oa nO oc] 34)).alloc (.cells #[.string (ba s)] 9)).alloc (.cells #[.int .i64 0, .int .i64 0, .slice none 0 0, .slice none 0 0, .int .i64 0, .slice none 0 0, .slice none 0 0] 34) := ⟨_, rfl⟩
 have BW : Hid (Below w.heap.size w W) := by
  rw [hW]; exact (((Below.refl _ _).alloc (Nat.le_refl _) _).alloc (by simp) _).alloc (by simp; omega) _
 have KB : Hid (Blk W (w.heap.size + 1 + 1) #[.int .i64 0, .int .i64 0, .slice none 0 0, .slice none 0 0, .int .i64 0, .slice none 0 0, .slice none 0 0] 34) := by
  have := Blk.new ((w.alloc (.cells #[.int .i64 last, .int .i64 next, .slice ha nh hc, .slice ba' no bc, .int .i64 first, .slice ga ng gc, .slice oa nO oc] 34)).alloc (.cells #[.string (ba s)] 9)) #[.int .i64 0, .int .i64 0, .slice none 0 0, .slice none 0 0, .int .i64 0, .slice none 0 0, .slice none 0 0] 34
  rw [hW]; simpa [Hid] using this
 have KS : Hid (Blk W (w.heap.size + 1) #[.string (ba s)] 9) := by
  have k := Blk.new (w.alloc (.cells #[.int .i64 last, .int .i64 next, .slice ha nh hc, .slice ba' no bc, .int .i64 first, .slice ga ng gc, .slice oa nO oc] 34)) #[.string (ba s)] 9
  have k2 := k.below ((Below.refl _ _).alloc (Nat.le_refl _) (.cells #[.int .i64 0, .int .i64 0, .slice none 0 0, .slice none 0 0, .int .i64 0, .slice none 0 0, .slice none 0 0] 34)) k.lt
  rw [hW]; simpa [Hid] using k2
 have hsz : N ≤ W.heap.size := by rw [hW, hN]; simp
 go_enter Tryz.func23, Tryz.ntmps23
 go_wp2_with fail
 rw [← hW]
 clear hW
 refine (HC.out W BW.out hsz KS.out).mono ?_
 rintro e w1 ⟨la2, ne2, b1, m1, d1, b2, m2, d2, fi2, b3, m3, d3, b4, m4, d4, rc, re, rfl, HR, hb⟩
 have KB1 : Hid (Blk w1 (w.heap.size + 1 + 1) #[.int .i64 0, .int .i64 0, .slice none 0 0, .slice none 0 0, .int .i64 0, .slice none 0 0, .slice none 0 0] 34) := KB.out.below hb KB.out.lt
 have BW1 : Hid (Below w.heap.size w w1) := BW.out.trans (hb.mono BW.out.size)
 clear hb KB BW HC hsz KS
 obtain ⟨z0, z1, z2, z3, z4, z5, z6⟩ := KB1.out.sevenc
 have g0 := KB1.out.free 0
 have g1 := KB1.out.free 1
 have g2 := KB1.out.free 2
 have g3 := KB1.out.free 3
 have g4 := KB1.out.free 4
 have g5 := KB1.out.free 5
 have g6 := KB1.out.free 6
 go_wp2_with fail
 clear z0 z1 z2 z3 z4 z5 z6 g0 g1 g2 g3 g4 g5 g6
 obtain ⟨Z, hZ⟩ : ∃ Z, Z = (((((((w1.setCell ⟨w.heap.size + 1 + 1, 0, none⟩ (.int .i64 la2)).setCell ⟨w.heap.size + 1 + 1, 1, none⟩ (.int .i64 ne2)).setCell ⟨w.heap.size + 1 + 1, 2, none⟩ (.slice b1 m1 d1)).setCell ⟨w.heap.size + 1 + 1, 3, none⟩ (.slice b2 m2 d2)).setCell ⟨w.heap.size + 1 + 1, 4, none⟩ (.int .i64 fi2)).setCell ⟨w.heap.size + 1 + 1, 5, none⟩ (.slice b3 m3 d3)).setCell ⟨w.heap.size + 1 + 1, 6, none⟩ (.slice b4 m4 d4)) := ⟨_, rfl⟩
 have KZ : Hid (Blk Z (w.heap.size + 1 + 1) #[.int .i64 la2, .int .i64 ne2, .slice b1 m1 d1, .slice b2 m2 d2, .int .i64 fi2, .slice b3 m3 d3, .slice b4 m4 d4] 34) := by rw [hZ]; exact seven_out KB1.out _ _ _ _ _ _ _
 have BZ : Hid (Below w.heap.size w Z) := by rw [hZ]; exact seven_below BW1.out (by omega) _ _ _ _ _ _ _
 obtain ⟨h1, h2, h3, h4, h5, hT⟩ := HR.out
 have hTZ : TrIn (fun g => w.heap.size ≤ g) Z (.slice b1 m1 d1) (.slice b2 m2 d2) (.slice b3 m3 d3) (.slice b4 m4 d4) A.1 := by
  rw [hZ]; exact hT.to (seven_same (by omega) _ _ _ _ _ _ _) (fun g _ hg => by omega)
 rw [← hZ]
 clear hZ KB1 BW1 HR hT hN
 obtain ⟨q0, q1, q2, q3, q4, q5, q6⟩ := KZ.out.sevenc
 rw [← h1, ← h2, ← h3, ← h4, ← h5]
 clear h1 h2 h3 h4 h5
 exact bodyPost_ret (v := .tuple #[.agg #[.int .i64 la2, .int .i64 ne2, .slice b1 m1 d1, .slice b2 m2 d2, .int .i64 fi2, .slice b3 m3 d3, .slice b4 m4 d4], .int .i64 rc, .int .i64 re]) (by simp [results, Tryz.results23, go_sem, q0, q1, q2, q3, q4, q5, q6]) rfl ⟨_, _, _, _, rfl, hTZ, BZ.out⟩
end Go.Proofs.YtnpaejknoipicagGreat
namespace Go.Proofs.YtnpaejknoipicagGreat
open Go.RowKit Go.Sort
def p0 : Pk := ⟨258, 5, true, true, true, ⟨#[97, 98]⟩⟩
def beR : Nat → Int → List UInt8
 | 0, _ => []
 | k + 1, n => beR k (n / 256) ++ [byteU n 0]
theorem beR_len (k : Nat) : ∀ n, (beR k n).length = k := by
 induction k with
 | zero => intro n; rfl
 | succ k ih => intro n; simp [beR, ih]
theorem byteU_div (n : Int) (i : Nat) : byteU (n / 256) i = byteU n (i + 1) := by
 apply u8_ext
 rw [byteU_toNat, byteU_toNat, show (8 * (i + 1)) = 8 + 8 * i by omega, Int.pow_add, ← Int.ediv_ediv_of_nonneg (by decide)]
 rfl
theorem beR1 (n : Int) : beR 1 n = be n 1 := rfl
theorem beR2 (n : Int) : beR 2 n = be n 2 := by
 show [byteU (n / 256) 0, byteU n 0] = [byteU n 1, byteU n 0]
 rw [byteU_div]
theorem beR4 (n : Int) : beR 4 n = be n 4 := by
 show [byteU (n / 256 / 256 / 256) 0, byteU (n / 256 / 256) 0, byteU (n / 256) 0, byteU n 0] = [byteU n 3, byteU n 2, byteU n 1, byteU n 0]
 rw [byteU_div, byteU_div, byteU_div, byteU_div, byteU_div, byteU_div]
theorem ba_append (a b : List UInt8) : ba a ++ ba b = ba (a ++ b) := by
 apply ByteArray.ext; simp [ba]
theorem one_back (n : Int) (W : World) (b : Nat) (h : W.cell? ⟨b, 0, none⟩ = some (.int .u8 (n % 256))) :
  (convert 210 9 (.slice (some ⟨b, 0, none⟩) 1 1)).run Tryz.prog W = .ok (.string (ba [byteU n 0])) W := by
 refine run_convert_bytes_back W 210 9 5 ⟨b, 0, none⟩ 1 [byteU n 0] Tryz.underlying210 Tryz.underlying5 Tryz.underlying9 (fun j hj => ?_)
 have hj0 : j = 0 := by simpa using hj
 subst hj0
 rw [Addr.add_lit]
 show W.cell? ⟨b, 0, none⟩ = some (.int .u8 (((byteU n 0).toNat : Nat) : Int))
 rw [b0]
 exact h
set_option maxHeartbeats 2000000 in
theorem numberBytes_any (k : Nat) : ∀ (n ki : Int) (w : World), ki = (k : Int) → 0 ≤ n → n ≤ 4294967295 → k ≤ 8 →
  Calls Tryz.prog 128 #[.int .i64 n, .int .i64 ki] w fun e w' => e = .returned (.string (ba (beR k n))) ∧ Below w.heap.size w w' := by
 induction k with
 | zero =>
  intro n ki w hki hn _ _
  subst hki
  go_enter Tryz.func128, Tryz.ntmps128
  go_wp2
  go_ret
  exact ⟨rfl, Below.refl _ _⟩
 | succ k ih =>
  intro n ki w hki hn hn2 hk8
  have hk0 : (ki == 0) = false := by rw [hki]; simp; omega
  have hkb : 0 ≤ ki ∧ ki ≤ 8 := by omega
  have IH := @id (Hid (∀ w : World, Calls Tryz.prog 128 #[.int .i64 (n / 256), .int .i64 (ki - 1)] w fun e w' => e = .returned (.string (ba (beR k (n / 256)))) ∧ Below w.heap.size w w')) (fun w => ih (n / 256) (ki - 1) w (by omega) (by omega) (by omega) (by omega))
  obtain ⟨r, hr⟩ : ∃ r, r = beR k (n / 256) := ⟨_, rfl⟩
  rw [← hr] at IH
  have hrl : (ba r).size ≤ 8 := by rw [hr, ba_size, beR_len]; omega
  have HR : Hid (r = beR k (n / 256)) := hr
  clear hr hki ih
  obtain ⟨hk1, hk2⟩ := hkb
  go_enter Tryz.func128, Tryz.ntmps128
  go_wp2_with fail
  have hw1 : IntKind.i64.wrap (n.tdiv 256) = n / 256 := by rw [Int.tdiv_eq_ediv_of_nonneg hn, IntKind.wrap_i64]; omega
  have hw2 : IntKind.i64.wrap (ki - 1) = ki - 1 := by rw [IntKind.wrap_i64]; omega
  have hw3 : n.tmod 256 = n % 256 := Int.tmod_eq_emod_of_nonneg hn
  have hw4 : IntKind.u8.wrap (n % 256) = n % 256 := by rw [IntKind.wrap_u8]; omega
  have hsm : ¬ 9223372036854775807 < (ba r).size + (ba [byteU n 0]).size := by rw [ba_size [byteU n 0]]; simp; omega
  have hcv := one_back n
  go_region_with (go_at_call 128; refine (IH.out _).mono ?_; rintro e w1 ⟨rfl, hb1⟩; have hcw := hb1.cell (p := ⟨w.heap.size, 0, none⟩))
  all_goals
   go_wp2
   go_ret
   refine ⟨?_, ?_⟩
   ·show Ending.returned (.string (ba r ++ ba [byteU n 0])) = _
    rw [ba_append, HR.out]
    rfl
   ·first
     | exact (((Below.refl _ w).drew).trans hb1).alloc (((Below.refl _ w).drew).trans hb1).size _
     | exact (((Below.refl _ w).alloc (Nat.le_refl _) _).drew).trans (hb1.mono (by simp))
set_option maxHeartbeats 8000000 in
theorem packetBytes_any (p : Pk) (w : World) (h : p.chk = 0) :
  Calls Tryz.prog 99 #[p.val] w fun e w' => e = .returned (.string (ba p.enc)) ∧ Below w.heap.size w w' := by
 obtain ⟨h1, h2, h3, h4, h5, _⟩ := Pk.chk_ok h
 obtain ⟨hf1, hf2⟩ := Pk.flags_le p.f p.e p.k
 obtain ⟨fl, hfl⟩ : ∃ fl, fl = 128 + Pk.flags p.f p.e p.k := ⟨_, rfl⟩
 obtain ⟨x1, hx1⟩ : ∃ x, x = ba (be fl 1) := ⟨_, rfl⟩
 obtain ⟨x2, hx2⟩ : ∃ x, x = ba (be p.seq 2) := ⟨_, rfl⟩
 obtain ⟨x3, hx3⟩ : ∃ x, x = ba (be p.time 4) := ⟨_, rfl⟩
 obtain ⟨x4, hx4⟩ : ∃ x, x = ba (be p.t.size 1) := ⟨_, rfl⟩
 have s1 : x1.size = 1 := by rw [hx1, ba_size]; rfl
 have s2 : x2.size = 2 := by rw [hx2, ba_size]; rfl
 have s3 : x3.size = 4 := by rw [hx3, ba_size]; rfl
 have s4 : x4.size = 1 := by rw [hx4, ba_size]; rfl
 have hfin : x1 ++ x2 ++ x3 ++ x4 ++ p.t = ba p.enc := by
  rw [hx1, hx2, hx3, hx4, ← ba_of p.t, ba_append, ba_append, ba_append, ba_append, ba_of, hfl]
  rfl
 have c1 : ∀ W : World, Calls Tryz.prog 128 #[.int .i64 fl, .int .i64 1] W fun e w' => e = .returned (.string x1) ∧ Below W.heap.size W w' := fun W => by
  rw [hx1, ← beR1]; exact numberBytes_any 1 fl 1 W rfl (by omega) (by omega) (by decide)
 have c2 : ∀ W : World, Calls Tryz.prog 128 #[.int .i64 p.seq, .int .i64 2] W fun e w' => e = .returned (.string x2) ∧ Below W.heap.size W w' := fun W => by
  rw [hx2, ← beR2]; exact numberBytes_any 2 p.seq 2 W rfl (by omega) (by omega) (by decide)
 have c3 : ∀ W : World, Calls Tryz.prog 128 #[.int .i64 p.time, .int .i64 4] W fun e w' => e = .returned (.string x3) ∧ Below W.heap.size W w' := fun W => by
  rw [hx3, ← beR4]; exact numberBytes_any 4 p.time 4 W rfl (by omega) (by omega) (by decide)
 have c4 : ∀ W : World, Calls Tryz.prog 128 #[.int .i64 (p.t.size : Int), .int .i64 1] W fun e w' => e = .returned (.string x4) ∧ Below W.heap.size W w' := fun W => by
  rw [hx4, ← beR1]; exact numberBytes_any 1 p.t.size 1 W rfl (by omega) (by omega) (by decide)
 rw [← hfin]
 obtain ⟨seq, time, f, e, k, t⟩ := p
 simp only [Pk.val] at *
 obtain ⟨W, hW⟩ : ∃ W, W = w.alloc (.cells #[.int .i64 seq, .int .i64 time, .bool f, .bool e, .bool k, .string t] 63) := ⟨_, rfl⟩
 have bW : Blk W w.heap.size #[.int .i64 seq, .int .i64 time, .bool f, .bool e, .bool k, .string t] 63 := by rw [hW]; exact Blk.new _ _ _
 have hbW : Below w.heap.size w W := by rw [hW]; exact (Below.refl _ _).alloc (Nat.le_refl _) _
 obtain ⟨d0, d1, _, _, _, d5, _⟩ := bW.six
 have k0 := cell_regrown d0
 have k1 := cell_regrown d1
 have k5 := cell_regrown d5
 have C1 := @id (Hid (∀ d os, Calls Tryz.prog 128 #[.int .i64 fl, .int .i64 1] (grow (redrawn W d) os) fun e w'' => e = .returned (.string x1) ∧ ∃ p : Regrown, w'' = grow (redrawn W p.d) p.os)) (fun d os => Calls.regrown_of (c1 _))
 have C2 := @id (Hid (∀ d os, Calls Tryz.prog 128 #[.int .i64 seq, .int .i64 2] (grow (redrawn W d) os) fun e w'' => e = .returned (.string x2) ∧ ∃ p : Regrown, w'' = grow (redrawn W p.d) p.os)) (fun d os => Calls.regrown_of (c2 _))
 have C3 := @id (Hid (∀ d os, Calls Tryz.prog 128 #[.int .i64 time, .int .i64 4] (grow (redrawn W d) os) fun e w'' => e = .returned (.string x3) ∧ ∃ p : Regrown, w'' = grow (redrawn W p.d) p.os)) (fun d os => Calls.regrown_of (c3 _))
 have C4 := @id (Hid (∀ d os, Calls Tryz.prog 128 #[.int .i64 (t.size : Int), .int .i64 1] (grow (redrawn W d) os) fun e w'' => e = .returned (.string x4) ∧ ∃ p : Regrown, w'' = grow (redrawn W p.d) p.os)) (fun d os => Calls.regrown_of (c4 _))
 have n1 : ¬ 9223372036854775807 < x1.size + x2.size := by omega
 have n2 : ¬ 9223372036854775807 < x1.size + x2.size + x3.size := by omega
 have n3 : ¬ 9223372036854775807 < x1.size + x2.size + x3.size + x4.size := by omega
 have n4 : ¬ 9223372036854775807 < x1.size + x2.size + x3.size + x4.size + t.size := by omega
 clear c1 c2 c3 c4 d0 d1 d5 bW hx1 hx2 hx3 hx4 s1 s2 s3 s4 hfin h h1 h2 h3 h4 h5 hf1 hf2
 have HW : Hid _ := hW
 subst hfl
 clear hW
 cases f <;> cases e <;> cases k
 all_goals
  simp only [Pk.flags, Bool.false_eq_true, if_true, if_false, Int.reduceAdd] at C1
  go_enter Tryz.func99, Tryz.ntmps99
  go_wp2_with fail
  rw [← HW.out]
  refine wp_region_quiet_below (by kernel_rfl) (by kernel_rfl) ?_
  repeat (quiet_step (first | (go_at_call_of 128 (Value.int IntKind.i64 2); exact C2.out _ _) | (go_at_call_of 128 (Value.int IntKind.i64 4); exact C3.out _ _) | (go_at_call_of 128 (Value.int IntKind.i64 (t.size : Int)); exact C4.out _ _) | exact C1.out _ _))
  refine wpQuiet_nil ?_
  intro _ hw'
  obtain ⟨⟨dq, osq⟩, hw''⟩ := hw'
  subst hw''
  clear k0 k1 k5
  go_wp2
  go_ret
  exact ⟨rfl, hbW.trans ((below_regrown W dq osq).mono hbW.size)⟩
end Go.Proofs.YtnpaejknoipicagGreat
namespace Go.Proofs.YtnpaejknoipicagGreat
open Go.RowKit
theorem trWhole_any (seq time : Int) (t : ByteArray) (w : World) :
  Calls Tryz.prog 58 #[.int .i64 seq, .int .i64 time, .string t] w fun e w' => e = .returned (.agg #[.int .i64 seq, .int .i64 time, .bool true, .bool true, .bool true, .string t]) ∧ Below w.heap.size w w' := by
 go_enter Tryz.func58, Tryz.ntmps58
 go_wp2
 exact bodyPost_ret (v := .agg #[.int .i64 seq, .int .i64 time, .bool true, .bool true, .bool true, .string t]) (by simp [results, Tryz.results58, go_sem]) rfl ⟨rfl, (Below.refl _ _).alloc (Nat.le_refl _) _⟩
theorem bytesOf_any (s t : Int) (f e k : Bool) (x : ByteArray) (w : World) (h : (Pk.mk s t f e k x).chk = 0) :
  Calls Tryz.prog 57 #[.agg #[.int .i64 s, .int .i64 t, .bool f, .bool e, .bool k, .string x]] w fun r w' => r = .returned (.string (ba (Pk.mk s t f e k x).enc)) ∧ Below w.heap.size w w' := by
 obtain ⟨b, hb⟩ : ∃ b, b = ba (Pk.mk s t f e k x).enc := ⟨_, rfl⟩
 have HP : Hid (∀ W : World, Calls Tryz.prog 99 #[.agg #[.int .i64 s, .int .i64 t, .bool f, .bool e, .bool k, .string x]] W fun r w' => r = .returned (.string b) ∧ Below W.heap.size W w') := fun W => by rw [hb]; exact packetBytes_any _ W h
 rw [← hb]
 clear hb h
 go_enter Tryz.func57, Tryz.ntmps57
 go_wp2_with fail
 refine (HP.out _).mono ?_
 rintro r w1 ⟨rfl, b1⟩
 have BW : Hid (Below w.heap.size w w1) := ((Below.refl _ w).alloc (Nat.le_refl _) _).trans (b1.mono (by simp))
 clear b1
 go_wp2
 go_ret
 exact ⟨rfl, BW.out⟩
theorem begFeed (t t' : Tr) (s : List UInt8) (cl : Nat) (er : Int) (la0 ne0 fi0 : Int) (hv bv gv ov : Value) (S : Nat → Prop) (w : World) (hf : feedA t s = (t', cl, er)) (hl : la0 = t.last) (hn : ne0 = t.next) (hi : fi0 = t.first) (hr : TrIn S w hv bv gv ov t) :
  Calls Tryz.prog 23 #[.agg #[.int .i64 la0, .int .i64 ne0, hv, bv, .int .i64 fi0, gv, ov], .string (ba s)] w fun e w' => ∃ la1 ne1 ha1 hn1 hc1 oa1 on1 oc1 fi1 ga1 gn1 gc1 pa1 pn1 pc1, e = .returned (.tuple #[.agg #[.int .i64 la1, .int .i64 ne1, .slice ha1 hn1 hc1, .slice oa1 on1 oc1, .int .i64 fi1, .slice ga1 gn1 gc1, .slice pa1 pn1 pc1], .int .i64 cl, .int .i64 er]) ∧ Hid (la1 = t'.last ∧ ne1 = t'.next ∧ fi1 = t'.first ∧ gn1 = t'.L.length) ∧ Hid (TrIn (fun g => w.heap.size ≤ g) w' (.slice ha1 hn1 hc1) (.slice oa1 on1 oc1) (.slice ga1 gn1 gc1) (.slice pa1 pn1 pc1) t') ∧ Below w.heap.size w w' := by
 subst hl hn hi
 refine (trkFeed_any S t s hv bv gv ov w hr).mono ?_
 rw [hf]
 rintro e w' ⟨x1, x2, x3, x4, rfl, q, b⟩
 obtain ⟨a1, c1, a2, c2, a3, c3, a4, c4, e1, e2, e3, e4⟩ := q.slices
 subst e1 e2 e3 e4
 exact ⟨_, _, _, _, _, _, _, _, _, _, _, _, _, _, _, rfl, ⟨rfl, rfl, rfl, rfl⟩, q, b⟩
end Go.Proofs.YtnpaejknoipicagGreat
