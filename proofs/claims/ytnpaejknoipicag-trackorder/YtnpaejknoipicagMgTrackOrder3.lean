/-
  The walk of TrackOrder.
-/
import Derived.Test.YtnpaejknoipicagMgTrackOrder2
import Derived.Test.YtnpaejknoipicagWireDecode
import Derived.Test.YtnpaejknoipicagCountWalk
import Derived.Deep.QuietTactic
import Derived.Test.YtnpaejknoipicagMgTrackOrder1
import Derived.Deep.DeepCutAuto
import Derived.Test.YtnpaejknoipicagWireRef2
import Derived.Test.YtnpaejknoipicagRefFrame
import Derived.BigQuiet
import Derived.Test.YtnpaejknoipicagRefSlot

namespace Go.Proofs.Ytnpaejknoipicag
open Go.RowKit Go.Sort

set_option maxHeartbeats 8000000 in
set_option maxRecDepth 100000 in
theorem numberOf_any (S : Nat → Prop) (M : Nat) (t : Tr) (c : Int) (p : Pk) (w : World) (hT : TkB S M w t c) (hp : p.chk = 0) :
    Calls Try.prog 35 #[.pointer (some ⟨M, 0, none⟩), p.val] w fun e w' => e = .returned (.tuple #[.int .i64 (numN t.last p), .int .i64 (numE t.last p)]) ∧ Below w.heap.size w w' := by
  obtain ⟨hv, bv, gv, ov, hM, hr⟩ := hT
  obtain ⟨p1, p2, _⟩ := Pk.chk_ok hp
  have y0 : w.cell? ⟨M, 0, none⟩ = some (.int .i64 t.last) := hM.cell rfl
  have hMw := hM.lt
  obtain ⟨last, hlast⟩ : ∃ x, x = t.last := ⟨_, rfl⟩
  rw [← hlast] at y0 ⊢
  clear hlast hM hr hp
  obtain ⟨W, hW⟩ : ∃ W, W = w.alloc (.cells #[.int .i64 p.seq, .int .i64 p.time, .bool p.f, .bool p.e, .bool p.k, .string p.t] 36) := ⟨_, rfl⟩
  have HB : Hid (Below w.heap.size w W) := by rw [hW]; exact (Below.refl _ _).alloc (Nat.le_refl _) _
  simp only [Pk.val]
  go_enter Try.func35, Try.ntmps35
  by_cases h0 : last = 0
  · have e1 : Hid (numN last p = p.seq + 65536 ∧ numE last p = 0) := by unfold numN numE; rw [if_pos h0, if_pos h0]; exact ⟨rfl, rfl⟩
    subst h0
    go_wp2
    rw [← hW]
    go_ret2
    rw [e1.out.1, e1.out.2]
    exact ⟨rfl, HB.out⟩
  · have e1 : Hid (numN last p = Cn.uwN last p.seq ∧ numE last p = Cn.uwE last p.seq) := by unfold numN numE; rw [if_neg h0, if_neg h0]; exact ⟨rfl, rfl⟩
    have h0b : (last == 0) = false := by simpa using h0
    go_wp2_with fail
    go_quiet ((go_at_call 57; refine Calls.quiet_of_same ((unwrap_any _ _ _).mono fun e w9 h => ⟨h.1, h.2.symm⟩)))
    rw [← hW]
    go_wp2
    go_ret2
    rw [e1.out.1, e1.out.2]
    exact ⟨rfl, below_drewN HB.out _⟩

theorem Fresh.slsIn {base : Nat} {S : Nat → Prop} {w : World} {v : Value} {l : List Sk} (h : Fresh base w v l) (hl : l.length ≤ 9223372036854775807) (hS : ∀ g, base ≤ g → S g) : SlsIn S w v l := ⟨h.1, hl, fun g hg _ => ⟨hS g (h.2 g hg).1, (h.2 g hg).2⟩⟩
theorem rel_len (most : Nat) {h : List Sk} {next : Int} (o : List Sk) (hu : upB (next - 1) h = true) : (relF most next h o).2.1.length ≤ h.length ∧ (relF most next h o).2.2.length ≤ o.length + h.length := by
  obtain ⟨p, i1, i2, _⟩ := rel_inv most h next o hu
  have : h.length = p.length + (relF most next h o).2.1.length := by rw [← List.length_append, ← i1]
  rw [i2, List.length_append]; omega

theorem rel_olen (most : Nat) : ∀ (h : List Sk) (next : Int) (o : List Sk), (relF most next h o).2.2.length ≤ h.length + o.length
  | [], next, o => by simp [relF]
  | x :: r, next, o => by
    simp only [relF]
    split
    · have := rel_olen most r (next + 1) (o ++ [x]); simp at this ⊢; omega
    · split
      · simp
      · have := rel_olen most r (x.n + 1) (o ++ [x]); simp at this ⊢; omega
theorem put_olen {next : Int} {l : List Sk} {x : Sk} (hR : Right next l) : (putF next l x).2.2.length ≤ 100 := by
  have h4 := hR.2.1
  have key : ∀ (n' : Int), (relF 4 n' (insF l x) []).2.2.length ≤ (insF l x).length + 0 := fun n' => rel_olen 4 (insF l x) n' []
  have hi : (insF l x).length = l.length + 1 := by
    unfold insF putAt
    rw [List.length_append, List.length_cons, List.length_take, List.length_drop]; omega
  unfold putF
  repeat' split
  all_goals first | (simp; done) | (refine Nat.le_trans (key _) ?_; omega)

set_option maxHeartbeats 8000000 in
set_option maxRecDepth 100000 in
theorem tkDrain_any (S : Nat → Prop) (M : Nat) (t : Tr) (w : World) (hT : TkB S M w t (0 : Nat)) (hR : Right t.next t.h) (hok : TkOk t) (hS : ∀ g, w.heap.size ≤ g → S g) :
    Calls Try.prog 25 #[.pointer (some ⟨M, 0, none⟩)] w fun e w' => e = .returned (.int .i64 (drainR t).2.2) ∧ ((drainR t).2.2 = 0 → TkB S M w' (drainR t).1 ((drainR t).2.1 : Nat)) ∧ Kept [M] w w' := by
  have hMw := hT.lt
  obtain ⟨hv, bv, gv, ov, hM, hr⟩ := hT
  obtain ⟨ha, hc, ba, bc, ga, gc, oa, oc, eh, eb, eg, eo⟩ := hr.slices
  have hup : upB (t.next - 1) t.h = true := upB_mono hR.2.2.2 (by omega)
  obtain ⟨l1, l2⟩ := rel_len 0 [] hup
  have h4 := hR.2.1
  obtain ⟨_, _, i3, _, _⟩ := flush_inv hR
  obtain ⟨N1, hN1⟩ : ∃ x, x = (relF 0 t.next t.h []).1 := ⟨_, rfl⟩
  obtain ⟨h1, hh1⟩ : ∃ x, x = (relF 0 t.next t.h []).2.1 := ⟨_, rfl⟩
  obtain ⟨o1, ho1⟩ : ∃ x, x = (relF 0 t.next t.h []).2.2 := ⟨_, rfl⟩
  obtain ⟨R, hRR⟩ : ∃ x, x = drainR t := ⟨_, rfl⟩
  have hR2 : R = tkN o1 (t.buf t.last N1 h1, 0) := by rw [hRR, ho1, hN1, hh1]; rfl
  rw [← ho1] at i3 l2
  rw [← hh1] at l1
  obtain ⟨next, hnext⟩ : ∃ x, x = t.next := ⟨_, rfl⟩
  obtain ⟨hn, hhn⟩ : ∃ x, x = t.h.length := ⟨_, rfl⟩
  rw [← hhn] at eh
  have HFL : Hid (Calls Try.prog 41 #[.agg #[.int .i64 next, hv]] w fun e w' => ∃ pa pn pc qa qn qc, e = .returned (.tuple #[.agg #[.int .i64 N1, .slice pa pn pc], .slice qa qn qc, .int .i64 0]) ∧ Hid (SlsIn (fun g => S g ∧ g ≠ M) w' (.slice pa pn pc) h1) ∧ Hid (SlsIn (fun g => g ≠ M) w' (.slice qa qn qc) o1) ∧ Below w.heap.size w w') := by
    rw [hnext]
    refine (bufFlush_any t.next hv t.h w hr.1.1 (by omega)).mono ?_
    rintro e w' ⟨hv', ov', rfl, f1, f2, f3⟩
    have hp0 : pchk t.next t.h = 0 := (bchk_right _ _).2 hR
    have e1 : flushR t.next t.h = relF 0 t.next t.h [] := by unfold flushR; rw [if_pos hp0]
    rw [e1] at f1 f2 ⊢
    rw [← hh1] at f1
    rw [← ho1] at f2
    obtain ⟨pa, pc, e2⟩ := f1.1.len
    obtain ⟨qa, qc, e3⟩ := f2.1.len
    subst e2 e3
    rw [hp0, ← hN1]
    simp only [List.length_nil] at l2
    exact ⟨pa, _, pc, qa, _, qc, rfl, f1.slsIn (by omega) (fun g hg => ⟨hS g hg, by omega⟩), f2.slsIn (by omega) (fun g hg => by omega), f3⟩
  have HPASS : Hid (∀ (W : World) (pv qv : Value), Below w.heap.size w W → SlsIn (fun g => S g ∧ g ≠ M) W pv h1 → SlsIn (fun g => g ≠ M) W qv o1 → Calls Try.prog 36 #[.pointer (some ⟨M, 0, none⟩), .agg #[.int .i64 N1, pv], qv, .int .i64 0] W fun e w' => e = .returned (.int .i64 R.2.2) ∧ (R.2.2 = 0 → TkB S M w' R.1 (R.2.1 : Nat)) ∧ Kept [M] w w') := fun W pv qv hW q1 q2 => by
    have hsz := hW.size
    simp only [List.length_nil] at l2
    refine (tkPass_any S M t 0 N1 pv qv h1 o1 W (TkB.below ⟨hv, bv, gv, ov, hM, hr⟩ hW) hok q1 q2 (fun x hx => hR.2.2.1 x (i3 x hx).1) (by omega) (fun g hg => hS g (by omega)) (by omega)).mono ?_
    rintro e w' ⟨rfl, a1, a2⟩
    rw [← hR2] at a1 ⊢
    exact ⟨rfl, a1, ((Kept.refl [M] w).below hW).trans a2⟩
  obtain ⟨y0, y1, y2, y3, y4, y5, y6, y7⟩ := hM.eight
  rw [← hnext] at y1
  rw [← hRR]
  clear hup l1 l2 h4 i3 hN1 hh1 ho1 hRR hR2 hnext hhn hM hr hR hok hS y0 y3 y4 y5 y6 y7
  subst eh
  go_enter Try.func25, Try.ntmps25
  go_wp2_with fail
  refine HFL.out.mono ?_
  rintro e w1 ⟨pa, pn, pc, qa, qn, qc, rfl, q1, q2, b1⟩
  have HP := HPASS.out w1 _ _ b1 q1.out q2.out
  have HP' : Hid (Calls Try.prog 36 #[.pointer (some ⟨M, 0, none⟩), .agg #[.int .i64 N1, .slice pa pn pc], .slice qa qn qc, .int .i64 0] w1 fun e w' => e = .returned (.int .i64 R.2.2) ∧ Hid (R.2.2 = 0 → TkB S M w' R.1 (R.2.1 : Nat)) ∧ Hid (Kept [M] w w')) := HP
  clear HP HPASS HFL q1 q2 b1
  go_wp2_with fail
  refine HP'.out.mono ?_
  rintro e w2 ⟨rfl, a1, a2⟩
  go_wp2
  go_ret
  exact ⟨rfl, a1.out, a2.out⟩

theorem Blk.sixc {w : World} {b : Nat} {x0 x1 x2 x3 x4 x5 : Value} {t : TypeId} (h : Blk w b #[x0, x1, x2, x3, x4, x5] t) :
    w.cell? ⟨b, 0, none⟩ = some x0 ∧ w.cell? ⟨b, 1, none⟩ = some x1 ∧ w.cell? ⟨b, 2, none⟩ = some x2 ∧ w.cell? ⟨b, 3, none⟩ = some x3 ∧ w.cell? ⟨b, 4, none⟩ = some x4 ∧ w.cell? ⟨b, 5, none⟩ = some x5 :=
  ⟨h.cell rfl, h.cell rfl, h.cell rfl, h.cell rfl, h.cell rfl, h.cell rfl⟩

set_option maxHeartbeats 16000000 in
set_option maxRecDepth 100000 in
theorem tkFeed_any (S : Nat → Prop) (M : Nat) (t : Tr) (s : List UInt8) (w : World) (hT : TkB S M w t (0 : Nat)) (hcl : t.last = 0 ∨ Cn.isNB t.last = true) (hR : Right t.next t.h) (hok : TkOk t) (hS : ∀ g, w.heap.size ≤ g → S g) :
    Calls Try.prog 19 #[.pointer (some ⟨M, 0, none⟩), .string (ba s)] w fun e w' => e = .returned (.int .i64 (feedR t s).2.2) ∧ ((feedR t s).2.2 = 0 → TkB S M w' (feedR t s).1 ((feedR t s).2.1 : Nat)) ∧ Kept [M] w w' := by
  have hMw := hT.lt
  have HT : Hid (TkB S M w t (0 : Nat)) := hT
  obtain ⟨hv, bv, gv, ov, hM, hr⟩ := hT
  obtain ⟨ha, hc, ba', bc, ga, gc, oa, oc, eh, eb, eg, eo⟩ := hr.slices
  obtain ⟨p, hp⟩ : ∃ x, x = (Pk.dec s).1 := ⟨_, rfl⟩
  obtain ⟨D, hD⟩ : ∃ x, x = (Pk.dec s).2 := ⟨_, rfl⟩
  obtain ⟨n, hn⟩ : ∃ x, x = numN t.last p := ⟨_, rfl⟩
  obtain ⟨NE, hNE⟩ : ∃ x, x = numE t.last p := ⟨_, rfl⟩
  obtain ⟨last, hlast⟩ : ∃ x, x = t.last := ⟨_, rfl⟩
  obtain ⟨next, hnext⟩ : ∃ x, x = t.next := ⟨_, rfl⟩
  obtain ⟨first, hfirst⟩ : ∃ x, x = t.first := ⟨_, rfl⟩
  obtain ⟨R, hRR⟩ : ∃ x, x = feedP t n p := ⟨_, rfl⟩
  obtain ⟨F, hF⟩ : ∃ x, x = feedR t s := ⟨_, rfl⟩
  have HF1 : Hid (¬ D = 0 → F = (Tr.zero, 0, D)) := fun h => by rw [hF]; unfold feedR; rw [← hD, if_neg h]
  have HF2 : Hid (D = 0 → ¬ NE = 0 → F = (Tr.zero, 0, NE)) := fun h h2 => by rw [hF]; unfold feedR; rw [← hD, if_pos h, ← hp, ← hNE, if_neg h2]
  have HF3 : Hid (D = 0 → NE = 0 → F = R) := fun h h2 => by rw [hF]; unfold feedR; rw [← hD, if_pos h, ← hp, ← hNE, if_pos h2, ← hn, ← hRR]
  have HPC : Hid (D = 0 → p.chk = 0) := fun h => by
    rcases Pk.dec_or s with ⟨_, h2⟩ | ⟨_, h2, _⟩
    · rw [← hD, h] at h2; cases h2
    · rw [hp]; exact h2
  have HDEC : Hid (Calls Try.prog 34 #[.string (ba s)] w fun e w' => e = .returned (.tuple #[.agg #[.int .i64 p.seq, .int .i64 p.time, .bool p.f, .bool p.e, .bool p.k, .string p.t], .int .i64 D]) ∧ Below w.heap.size w w') := by
    rw [hp, hD]; exact decode_any s w
  have HNO : Hid (D = 0 → ∀ W : World, Below w.heap.size w W → Calls Try.prog 35 #[.pointer (some ⟨M, 0, none⟩), .agg #[.int .i64 p.seq, .int .i64 p.time, .bool p.f, .bool p.e, .bool p.k, .string p.t]] W fun e w' => e = .returned (.tuple #[.int .i64 n, .int .i64 NE]) ∧ Below W.heap.size W w') := fun h W hW => by
    rw [hn, hNE]; exact numberOf_any S M t _ p W (HT.out.below hW) (HPC.out h)
  -- what comes of Put and pass, the number known
  have HGO : Hid (D = 0 → NE = 0 → ∃ N1 h1 o1, R = tkN o1 (t.buf (max t.last n) N1 h1, 0) ∧ (∀ W : World, w.heap.size ≤ W.heap.size → M < w.heap.size → SlsIn (fun g => S g ∧ g ≠ M) W hv t.h → Calls Try.prog 37 #[.agg #[.int .i64 next, hv], .agg #[.int .i64 n, .int .i64 p.seq, .int .i64 p.time, .bool p.f, .bool p.e, .bool p.k, .string p.t]] W fun e w' => ∃ pa pn pc qa qn qc, e = .returned (.tuple #[.agg #[.int .i64 N1, .slice pa pn pc], .slice qa qn qc, .int .i64 0]) ∧ Hid (SlsIn (fun g => S g ∧ g ≠ M) w' (.slice pa pn pc) h1) ∧ Hid (SlsIn (fun g => g ≠ M) w' (.slice qa qn qc) o1) ∧ Below W.heap.size W w') ∧ (∀ (W : World) (pv qv : Value), w.heap.size ≤ W.heap.size → TkB S M W (t.buf (max t.last n) t.next t.h) (0 : Nat) → SlsIn (fun g => S g ∧ g ≠ M) W pv h1 → SlsIn (fun g => g ≠ M) W qv o1 → Calls Try.prog 36 #[.pointer (some ⟨M, 0, none⟩), .agg #[.int .i64 N1, pv], qv, .int .i64 0] W fun e w' => e = .returned (.int .i64 R.2.2) ∧ Hid (R.2.2 = 0 → TkB S M w' R.1 (R.2.1 : Nat)) ∧ Hid (Kept [M] W w'))) := fun h0 h2 => by
    have hpc := HPC.out h0
    have hx : (Sk.mk n p).chk = 0 := by rw [hn]; exact num_slot hpc hcl (by rw [← hNE]; exact h2)
    obtain ⟨i1, i2, i3, i4, i5, i6, i7⟩ := put_inv hR hx
    obtain ⟨N1, hN1⟩ : ∃ x, x = (putF t.next t.h ⟨n, p⟩).1 := ⟨_, rfl⟩
    obtain ⟨h1, hh1⟩ : ∃ x, x = (putF t.next t.h ⟨n, p⟩).2.1 := ⟨_, rfl⟩
    obtain ⟨o1, ho1⟩ : ∃ x, x = (putF t.next t.h ⟨n, p⟩).2.2 := ⟨_, rfl⟩
    have hR2 : R = tkN o1 (t.buf (max t.last n) N1 h1, 0) := by rw [hRR, ho1, hN1, hh1]; rfl
    have hlo : o1.length ≤ 100 := by rw [ho1]; exact put_olen hR
    have hlh : h1.length ≤ 4 := by rw [hh1]; exact i1.2.1
    have hoc : ∀ y ∈ o1, y.chk = 0 := fun y hy => by
      rw [ho1] at hy
      rcases (i3 y hy).1 with e | e
      · rw [e]; exact hx
      · exact hR.2.2.1 y e
    refine ⟨N1, h1, o1, hR2, fun W hsz hMl hsl => ?_, fun W pv qv hsz htk q1 q2 => ?_⟩
    · rw [hnext]
      refine (bufPut_any t.next hv t.h ⟨n, p⟩ W hsl.1 hsl.2.1).mono ?_
      rintro e w' ⟨hv', ov', rfl, f1, f2, f3⟩
      have hp0 : pchk t.next t.h = 0 := (bchk_right _ _).2 hR
      have e0 : putE t.next t.h ⟨n, p⟩ = 0 := by unfold putE; rw [if_pos hp0]; exact hx
      have e1 : putR t.next t.h ⟨n, p⟩ = putF t.next t.h ⟨n, p⟩ := by unfold putR; rw [if_pos e0]
      rw [e1] at f1 f2 ⊢
      rw [← hh1] at f1
      rw [← ho1] at f2
      obtain ⟨pa, pc, e2⟩ := f1.1.len
      obtain ⟨qa, qc, e3⟩ := f2.1.len
      subst e2 e3
      rw [e0, ← hN1]
      exact ⟨pa, _, pc, qa, _, qc, rfl, f1.slsIn (by omega) (fun g hg => ⟨hS g (by omega), by omega⟩), f2.slsIn (by omega) (fun g hg => by omega), f3⟩
    · refine (tkPass_any S M (t.buf (max t.last n) t.next t.h) 0 N1 pv qv h1 o1 W htk hok q1 q2 hoc hlo (fun g hg => hS g (by omega)) (by omega)).mono ?_
      rintro e w' ⟨rfl, a1, a2⟩
      have e9 : (t.buf (max t.last n) t.next t.h).buf (t.buf (max t.last n) t.next t.h).last N1 h1 = t.buf (max t.last n) N1 h1 := rfl
      rw [e9, ← hR2] at a1 ⊢
      exact ⟨rfl, a1, a2⟩
  have HSUS : Hid (∀ g, w.heap.size ≤ g → S g) := hS
  have HR0 : Hid (TrIn (fun g => S g ∧ g ≠ M) w hv bv gv ov t) := hr
  obtain ⟨hn', hhn⟩ : ∃ x, x = t.h.length := ⟨_, rfl⟩
  obtain ⟨bn, hbn⟩ : ∃ x, x = t.o.length := ⟨_, rfl⟩
  obtain ⟨ln, hln⟩ : ∃ x, x = t.L.length := ⟨_, rfl⟩
  obtain ⟨lo, hlo⟩ : ∃ x, x = t.O.length := ⟨_, rfl⟩
  rw [← hhn] at eh
  rw [← hbn] at eb
  rw [← hln] at eg
  rw [← hlo] at eo
  have HTT : Hid (last = t.last ∧ next = t.next ∧ first = t.first) := ⟨hlast, hnext, hfirst⟩
  have HMX : Hid (max t.last n = max last n) := by show _ = _; rw [hlast]
  rw [← hlast, ← hnext, ← hfirst] at hM
  have HM : Hid (Blk w M #[.int .i64 last, .int .i64 next, hv, bv, .int .i64 first, gv, ov, .int .i64 (0 : Nat)] 76) := hM
  rw [← hF]
  clear hhn hbn hln hlo hlast hnext hfirst hM hr hR hok hS hcl hp hD hn hNE hRR hF
  subst eh eb eg eo
  go_enter Try.func19, Try.ntmps19
  go_wp2_with fail
  refine HDEC.out.mono ?_
  rintro e w1 ⟨rfl, b1⟩
  obtain ⟨W1, hW1⟩ : ∃ X, X = w1.alloc (.cells #[.int .i64 p.seq, .int .i64 p.time, .bool p.f, .bool p.e, .bool p.k, .string p.t] 36) := ⟨_, rfl⟩
  have HB1 : Hid (Below w.heap.size w W1) := by rw [hW1]; exact b1.alloc b1.size _
  have HP1 : Hid (Blk W1 w1.heap.size #[.int .i64 p.seq, .int .i64 p.time, .bool p.f, .bool p.e, .bool p.k, .string p.t] 36) := Blk.newE hW1
  have hs1 : w.heap.size ≤ w1.heap.size := b1.size
  clear HDEC b1
  by_cases hD0 : D = 0
  case neg =>
    have HFX : Hid (F = (Tr.zero, 0, D)) := HF1.out hD0
    go_wp2
    rw [← hW1]
    go_ret
    rw [HFX.out]
    exact ⟨rfl, fun h => absurd h hD0, (Kept.refl [M] w).below HB1.out⟩
  have HNO' : Hid (∀ W : World, Below w.heap.size w W → Calls Try.prog 35 #[.pointer (some ⟨M, 0, none⟩), .agg #[.int .i64 p.seq, .int .i64 p.time, .bool p.f, .bool p.e, .bool p.k, .string p.t]] W fun e w' => e = .returned (.tuple #[.int .i64 n, .int .i64 NE]) ∧ Below W.heap.size W w') := HNO.out hD0
  have HG2 := HGO.out hD0
  have HG3 : Hid (NE = 0 → _) := HG2
  have HF2' : Hid (¬ NE = 0 → F = (Tr.zero, 0, NE)) := HF2.out hD0
  have HF3' : Hid (NE = 0 → F = R) := HF3.out hD0
  obtain ⟨j0, j1, j2, j3, j4, j5⟩ := HP1.out.sixc
  clear HG2 HGO HNO HF1 HF2 HF3
  subst hD0
  go_upto_region 4 with fail
  rw [← hW1]
  clear hW1
  go_wp2_with fail
  refine (HNO'.out W1 HB1.out).mono ?_
  rintro e w2 ⟨rfl, b2⟩
  have HB2 : Hid (Below w.heap.size w w2) := HB1.out.trans (b2.mono HB1.out.size)
  have HP2 : Hid (Blk w2 w1.heap.size #[.int .i64 p.seq, .int .i64 p.time, .bool p.f, .bool p.e, .bool p.k, .string p.t] 36) := HP1.out.below b2 HP1.out.lt
  clear b2 HB1 HP1 j0 j1 j2 j3 j4 j5 HNO'
  by_cases hN0 : NE = 0
  case neg =>
    have HFX : Hid (F = (Tr.zero, 0, NE)) := HF2'.out hN0
    go_wp2
    go_ret
    rw [HFX.out]
    exact ⟨rfl, fun h => absurd h hN0, (Kept.refl [M] w).below HB2.out⟩
  obtain ⟨N1, h1, o1, hR2, hput, hpass⟩ := HG3.out hN0
  have HRF : Hid (F = R) := HF3'.out hN0
  have HM2 := HM.out.below HB2.out hMw
  obtain ⟨y0, y1, y2, y3, y4, y5, y6, y7⟩ := HM2.eight
  have fM := HM2.free
  have lM := HM2.lt
  have hB5 : w1.heap.size ≠ M := by omega
  obtain ⟨W, hW⟩ : ∃ X, X = w2.setCell ⟨M, 0, none⟩ (.int .i64 (max last n)) := ⟨_, rfl⟩
  have HKW : Hid (Kept [M] w W) := by rw [hW]; exact ((Kept.refl [M] w).below HB2.out).setCell (p := ⟨M, 0, none⟩) (by simp) _
  have HPW : Hid (Blk W w1.heap.size #[.int .i64 p.seq, .int .i64 p.time, .bool p.f, .bool p.e, .bool p.k, .string p.t] 36) := by rw [hW]; exact HP2.out.other (a := ⟨M, 0, none⟩) hB5 _
  have HMW : Hid (Blk W M #[.int .i64 (max last n), .int .i64 next, .slice ha hn' hc, .slice ba' bn bc, .int .i64 first, .slice ga ln gc, .slice oa lo oc, .int .i64 (0 : Nat)] 76) := by
    have := HM2.set 0 (.int .i64 (max last n))
    rw [hW]; simpa [Hid] using this
  have HRW : Hid (TrIn (fun g => S g ∧ g ≠ M) W (.slice ha hn' hc) (.slice ba' bn bc) (.slice ga ln gc) (.slice oa lo oc) t) := by
    have h2 := HR0.out.below HB2.out
    exact h2.to ⟨by rw [hW]; simp, fun g _ h => by rw [hW, Below.heap_setCell _ _ _ _ (by exact h.2)]⟩ (fun _ _ h => h)
  have HTW : Hid (TkB S M W (t.buf (max t.last n) t.next t.h) (0 : Nat)) := by
    refine ⟨_, _, _, _, ?_, HRW.out⟩
    have := HMW.out
    rw [HTT.out.2.1, HTT.out.2.2, ← HMX.out] at this
    exact this
  have hsW : w.heap.size ≤ W.heap.size := HKW.out.size
  have HPUT : Hid (∀ w', Below W.heap.size W w' → Calls Try.prog 37 #[.agg #[.int .i64 next, .slice ha hn' hc], .agg #[.int .i64 n, .int .i64 p.seq, .int .i64 p.time, .bool p.f, .bool p.e, .bool p.k, .string p.t]] w' fun e w'' => ∃ pa pn pc qa qn qc, e = .returned (.tuple #[.agg #[.int .i64 N1, .slice pa pn pc], .slice qa qn qc, .int .i64 0]) ∧ Hid (SlsIn (fun g => S g ∧ g ≠ M) w'' (.slice pa pn pc) h1) ∧ Hid (SlsIn (fun g => g ≠ M) w'' (.slice qa qn qc) o1) ∧ Below w'.heap.size w' w'') := fun w' hb => hput w' (Nat.le_trans hsW hb.size) hMw (HRW.out.1.below hb)
  have HPASS : Hid (∀ (w' : World) (pv qv : Value), Below W.heap.size W w' → SlsIn (fun g => S g ∧ g ≠ M) w' pv h1 → SlsIn (fun g => g ≠ M) w' qv o1 → Calls Try.prog 36 #[.pointer (some ⟨M, 0, none⟩), .agg #[.int .i64 N1, pv], qv, .int .i64 0] w' fun e w'' => e = .returned (.int .i64 R.2.2) ∧ Hid (R.2.2 = 0 → TkB S M w'' R.1 (R.2.1 : Nat)) ∧ Hid (Kept [M] W w'')) := fun w' pv qv hb q1 q2 => by
    refine (hpass w' pv qv (Nat.le_trans hsW hb.size) (HTW.out.below hb) q1 q2).mono ?_
    rintro e w'' ⟨rfl, a1, a2⟩
    exact ⟨rfl, a1, ((Kept.refl [M] W).below hb).trans a2.out⟩
  clear hput hpass hR2 HG3 HF2' HF3' HM2 HRW HTW HR0 HP2 HB2 HM HT HTT HMX HSUS HPC
  subst hN0
  obtain ⟨B, hBe⟩ : ∃ x, x = w1.heap.size := ⟨_, rfl⟩
  rw [← hBe] at HPW
  go_upto_region 8 with fail
  have hmx : (if last < n then n else last) = max last n := by split <;> omega
  rw [hmx, ← hW, ← hBe]
  have hBM : B ≠ M := by omega
  clear hmx hW hBe y0 y1 y2 y3 y4 y5 y6 y7 fM lM hB5
  refine region_boxes (by kernel_rfl) (by kernel_rfl) [.quiet (.pointer (some ⟨M, 0, none⟩)) 3, .quiet (.pointer (some ⟨M, 0, none⟩)) 3, .quiet (.pointer (some ⟨M, 0, none⟩)) 3, .quiet (.pointer (some ⟨M, 0, none⟩)) 3, .quiet (.pointer (some ⟨M, 1, none⟩)) 3, .quiet (.agg #[.int .i64 next, .slice ha hn' hc]) 0, .quiet (.int .i64 n) 3, .quiet (.agg #[.int .i64 p.seq, .int .i64 p.time, .bool p.f, .bool p.e, .bool p.k, .string p.t]) 3, .quiet (.agg #[.int .i64 n, .int .i64 p.seq, .int .i64 p.time, .bool p.f, .bool p.e, .bool p.k, .string p.t]) 3, .step 0, .fin 0 (exT 0), .fin 0 (exT 1), .fin 0 (exT 2), .step 1, .step 2] [9, 13, 14] (by kernel_rfl)
    (fun s r _ w' => (0 < s → ∃ pa pn pc qa qn qc, r 0 = .tuple #[.agg #[.int .i64 N1, .slice pa pn pc], .slice qa qn qc, .int .i64 0]) ∧ (match s with
      | 0 => Below W.heap.size W w'
      | 1 => Below W.heap.size W w' ∧ ∃ pa pn pc qa qn qc, r 0 = .tuple #[.agg #[.int .i64 N1, .slice pa pn pc], .slice qa qn qc, .int .i64 0] ∧ SlsIn (fun g => S g ∧ g ≠ M) w' (.slice pa pn pc) h1 ∧ SlsIn (fun g => g ≠ M) w' (.slice qa qn qc) o1
      | 2 => Kept [M] W w' ∧ r 1 = .int .i64 R.2.2 ∧ (R.2.2 = 0 → TkB S M w' R.1 (R.2.1 : Nat))
      | _ => Kept [M] W w' ∧ r 2 = .int .i64 R.2.2 ∧ (R.2.2 = 0 → TkB S M w' R.1 (R.2.1 : Nat))
      )) ⟨fun h => absurd h (Nat.lt_irrefl _), (Below.refl _ W).drew⟩ ?step ?fin
  case step =>
    intro i o ho a' w' s r b ⟨hr0, hI⟩ hfree hvals hbx
    have f0 : a'.eval (.tmp 0) = .pointer (some ⟨M, 0, none⟩) := (hfree 0 (by kernel_rfl)).trans rfl
    have f7 : a'.eval (.tmp 7) = .int .i64 n := (hfree 7 (by kernel_rfl)).trans rfl
    have f5 : a'.eval (.tmp 5) = .pointer (some ⟨B, 0, none⟩) := (hfree 5 (by kernel_rfl)).trans rfl
    match i, ho with
    | 0, ho =>
      simp at ho; subst ho
      show s ≤ 3 → (execOp a'.eval _).run _ w' = .ok (.value _) w'
      intro hs
      generalize a'.eval = ρ at *
      simp [execOp, go_sem, f0]
    | 1, ho =>
      simp at ho; subst ho
      show s ≤ 3 → (execOp a'.eval _).run _ w' = .ok (.value _) w'
      intro hs
      generalize a'.eval = ρ at *
      simp [execOp, go_sem, f0]
    | 2, ho =>
      simp at ho; subst ho
      show s ≤ 3 → (execOp a'.eval _).run _ w' = .ok (.value _) w'
      intro hs
      have e37 : a'.eval (.tmp 37) = .pointer (some ⟨M, 0, none⟩) := hvals 1 _ _ (by kernel_rfl) rfl rfl
      generalize a'.eval = ρ at *
      simp [execOp, go_sem, e37]
    | 3, ho =>
      simp at ho; subst ho
      show s ≤ 3 → (execOp a'.eval _).run _ w' = .ok (.value _) w'
      intro hs
      have e38 : a'.eval (.tmp 38) = .pointer (some ⟨M, 0, none⟩) := hvals 2 _ _ (by kernel_rfl) rfl rfl
      generalize a'.eval = ρ at *
      simp [execOp, go_sem, e38]
    | 4, ho =>
      simp at ho; subst ho
      show s ≤ 3 → (execOp a'.eval _).run _ w' = .ok (.value _) w'
      intro hs
      have e39 : a'.eval (.tmp 39) = .pointer (some ⟨M, 0, none⟩) := hvals 3 _ _ (by kernel_rfl) rfl rfl
      generalize a'.eval = ρ at *
      simp [execOp, go_sem, e39]
    | 5, ho =>
      simp at ho; subst ho
      show s ≤ 0 → (execOp a'.eval _).run _ w' = .ok (.value _) w'
      intro hs
      have e40 : a'.eval (.tmp 40) = .pointer (some ⟨M, 1, none⟩) := hvals 4 _ _ (by kernel_rfl) rfl rfl
      obtain rfl : s = 0 := by omega
      have hB : Below W.heap.size W w' := hI
      obtain ⟨y0, y1, y2, y3, y4, y5, y6, y7⟩ := (HMW.out.below hB HMW.out.lt).eight
      generalize a'.eval = ρ at *
      simp [execOp, go_sem, e40, y1, y2]
    | 6, ho =>
      simp at ho; subst ho
      show s ≤ 3 → (execOp a'.eval _).run _ w' = .ok (.value _) w'
      intro hs
      generalize a'.eval = ρ at *
      simp [execOp, go_sem, f7]
    | 7, ho =>
      simp at ho; subst ho
      show s ≤ 3 → (execOp a'.eval _).run _ w' = .ok (.value _) w'
      intro hs
      have hPB : Blk w' B #[.int .i64 p.seq, .int .i64 p.time, .bool p.f, .bool p.e, .bool p.k, .string p.t] 36 := by
        match s, hI with
        | 0, hI => exact HPW.out.below hI HPW.out.lt
        | 1, hI => exact HPW.out.below hI.1 HPW.out.lt
        | 2, hI => exact HPW.out.kept hI.1 (by simpa using hBM)
        | n + 3, hI => exact HPW.out.kept hI.1 (by simpa using hBM)
      obtain ⟨j0, j1, j2, j3, j4, j5⟩ := hPB.sixc
      generalize a'.eval = ρ at *
      simp [execOp, go_sem, f5, j0, j1, j2, j3, j4, j5]
    | 8, ho =>
      simp at ho; subst ho
      show s ≤ 3 → (execOp a'.eval _).run _ w' = .ok (.value _) w'
      intro hs
      have e42 : a'.eval (.tmp 42) = .int .i64 n := hvals 6 _ _ (by kernel_rfl) rfl rfl
      have e43 : a'.eval (.tmp 43) = .agg #[.int .i64 p.seq, .int .i64 p.time, .bool p.f, .bool p.e, .bool p.k, .string p.t] := hvals 7 _ _ (by kernel_rfl) rfl rfl
      generalize a'.eval = ρ at *
      simp [execOp, go_sem, e42, e43]
    | 9, ho =>
      simp at ho; subst ho
      have e41 : a'.eval (.tmp 41) = .agg #[.int .i64 next, .slice ha hn' hc] := hvals 5 _ _ (by kernel_rfl) rfl rfl
      have e44 : a'.eval (.tmp 44) = .agg #[.int .i64 n, .int .i64 p.seq, .int .i64 p.time, .bool p.f, .bool p.e, .bool p.k, .string p.t] := hvals 8 _ _ (by kernel_rfl) rfl rfl
      show s = 0 → _
      intro hs
      subst hs
      have hB : Below W.heap.size W w' := hI
      have ef : a'.eval (.func 37) = .func (.func 37) #[] #[] := rfl
      refine oper_wp_call (f := 37) (args := #[.agg #[.int .i64 next, .slice ha hn' hc], .agg #[.int .i64 n, .int .i64 p.seq, .int .i64 p.time, .bool p.f, .bool p.e, .bool p.k, .string p.t]]) ?_ ((HPUT.out w' hB).mono ?_)
      · generalize a'.eval = ρ at *
        simp [execOp, go_sem, e41, e44, ef]
      · rintro e w'' ⟨pa, pn, pc, qa, qn, qc, rfl, q1, q2, b1⟩
        exact ⟨_, rfl, _, rfl, fun _ => ⟨pa, pn, pc, qa, qn, qc, updR_at _ _ _⟩, hB.trans (b1.mono hB.size), pa, pn, pc, qa, qn, qc, updR_at _ _ _, q1.out, q2.out⟩
    | 10, ho =>
      simp at ho; subst ho
      have e45 : a'.eval (.tmp 45) = r 0 := hvals 9 _ _ (by kernel_rfl) rfl rfl
      show 0 < s → (execOp a'.eval _).run _ w' = .ok (.value _) w'
      intro hs
      obtain ⟨pa, pn, pc, qa, qn, qc, er⟩ : ∃ pa pn pc qa qn qc, r 0 = .tuple #[.agg #[.int .i64 N1, .slice pa pn pc], .slice qa qn qc, .int .i64 0] := hr0 hs
      rw [er] at e45 ⊢
      simp only [exT] at e45 ⊢
      generalize a'.eval = ρ at *
      simp [execOp, go_sem, e45]
    | 11, ho =>
      simp at ho; subst ho
      have e45 : a'.eval (.tmp 45) = r 0 := hvals 9 _ _ (by kernel_rfl) rfl rfl
      show 0 < s → (execOp a'.eval _).run _ w' = .ok (.value _) w'
      intro hs
      obtain ⟨pa, pn, pc, qa, qn, qc, er⟩ : ∃ pa pn pc qa qn qc, r 0 = .tuple #[.agg #[.int .i64 N1, .slice pa pn pc], .slice qa qn qc, .int .i64 0] := hr0 hs
      rw [er] at e45 ⊢
      simp only [exT] at e45 ⊢
      generalize a'.eval = ρ at *
      simp [execOp, go_sem, e45]
    | 12, ho =>
      simp at ho; subst ho
      have e45 : a'.eval (.tmp 45) = r 0 := hvals 9 _ _ (by kernel_rfl) rfl rfl
      show 0 < s → (execOp a'.eval _).run _ w' = .ok (.value _) w'
      intro hs
      obtain ⟨pa, pn, pc, qa, qn, qc, er⟩ : ∃ pa pn pc qa qn qc, r 0 = .tuple #[.agg #[.int .i64 N1, .slice pa pn pc], .slice qa qn qc, .int .i64 0] := hr0 hs
      rw [er] at e45 ⊢
      simp only [exT] at e45 ⊢
      generalize a'.eval = ρ at *
      simp [execOp, go_sem, e45]
    | 13, ho =>
      simp at ho; subst ho
      show s = 1 → _
      intro hs
      subst hs
      obtain ⟨hB, pa, pn, pc, qa, qn, qc, er, q1, q2⟩ := hI
      have e36 : a'.eval (.tmp 36) = .pointer (some ⟨M, 0, none⟩) := hvals 0 _ _ (by kernel_rfl) rfl rfl
      have e46 : a'.eval (.tmp 46) = .agg #[.int .i64 N1, .slice pa pn pc] := (hvals 10 _ _ (by kernel_rfl) rfl rfl).trans (by show exT 0 (r 0) = _; rw [er]; rfl)
      have e47 : a'.eval (.tmp 47) = .slice qa qn qc := (hvals 11 _ _ (by kernel_rfl) rfl rfl).trans (by show exT 1 (r 0) = _; rw [er]; rfl)
      have e48 : a'.eval (.tmp 48) = .int .i64 0 := (hvals 12 _ _ (by kernel_rfl) rfl rfl).trans (by show exT 2 (r 0) = _; rw [er]; rfl)
      have ef : a'.eval (.func 36) = .func (.func 36) #[] #[] := rfl
      refine oper_wp_call (f := 36) (args := #[.pointer (some ⟨M, 0, none⟩), .agg #[.int .i64 N1, .slice pa pn pc], .slice qa qn qc, .int .i64 0]) ?_ ((HPASS.out w' _ _ hB q1 q2).mono ?_)
      · generalize a'.eval = ρ at *
        simp [execOp, go_sem, e36, e46, e47, e48, ef]
      · rintro e w'' ⟨rfl, a1, a2⟩
        exact ⟨_, rfl, _, rfl, fun _ => ⟨pa, pn, pc, qa, qn, qc, by rw [updR_ne (by omega)]; exact er⟩, a2.out, updR_at _ _ _, a1.out⟩
    | 14, ho =>
      simp at ho; subst ho
      show s = 2 → _
      intro hs
      subst hs
      obtain ⟨k1, er, k2⟩ := hI
      have e49 : a'.eval (.tmp 49) = .int .i64 R.2.2 := (hvals 13 _ _ (by kernel_rfl) rfl rfl).trans er
      obtain ⟨pa, pn, pc, qa, qn, qc, er0⟩ := hr0 (by omega)
      refine oper_wp_ok (v := .int .i64 R.2.2) (w' := w') ?_ ⟨_, rfl, fun _ => ⟨pa, pn, pc, qa, qn, qc, by rw [updR_ne (by omega)]; exact er0⟩, k1, updR_at _ _ _, k2⟩
      generalize a'.eval = ρ at *
      simp [execOp, go_sem, e49]
    | i + 15, ho => simp at ho
  case fin =>
    rintro r b w7 ⟨hr0, k1, er, k2⟩ _
    obtain ⟨pa, pn, pc, qa, qn, qc, er0⟩ := hr0 (by decide)
    simp only [putM, Cm.out, er, er0, exT, Act.put, List.setIfInBounds_toArray, List.set_cons_succ, List.set_cons_zero]
    have K1 : Hid (Kept [M] W w7) := k1
    have K2 : Hid (R.2.2 = 0 → TkB S M w7 R.1 (R.2.1 : Nat)) := k2
    clear k1 k2 er er0 hr0
    go_wp2
    go_ret
    rw [HRF.out]
    exact ⟨rfl, K2.out, HKW.out.trans K1.out⟩

end Go.Proofs.Ytnpaejknoipicag

namespace Go.Proofs.Ytnpaejknoipicag
open Go.RowKit

set_option maxHeartbeats 4000000 in
set_option maxRecDepth 100000 in
/-- of a group that may be empty, too -/
theorem cloneGroupO_any (S : Nat → Prop) (v : Value) (l : List Fr) (w : World) (hv : FrsIn S w v l) (h6 : l.length ≤ 6) (hck : ∀ k, k < l.length → (frAt l k).chk = 0) :
    Calls Try.prog 51 #[.agg #[v]] w fun e w' => ∃ a c, e = .returned (.agg #[.slice a l.length c]) ∧ FrsIn (fun g => w.heap.size ≤ g) w' (.slice a l.length c) l ∧ Below w.heap.size w w' := by
  obtain ⟨va, vc, ev, _, _⟩ := hv.len
  obtain ⟨n, hn⟩ : ∃ n, n = l.length := ⟨_, rfl⟩
  have HN : Hid (n = l.length) := hn
  have HV : Hid (FrsIn S w v l) := hv
  have HC : Hid (∀ U, Below w.heap.size w U → Calls Try.prog 70 #[v, .func (.func 71) #[] #[]] U fun e w' => ∃ a c, e = .returned (.slice a n c) ∧ Hid (FrsIn (fun g => U.heap.size ≤ g) w' (.slice a n c) l) ∧ Below U.heap.size U w') := fun U hU => by
    refine (cloneFrs_any S v l U (HV.out.below hU) h6 hck).mono ?_
    rintro e w' ⟨u, rfl, ho, hb⟩
    have hf : FrsIn (fun g => U.heap.size ≤ g) w' u l := ho.frsIn (fun g _ h => h.1) (fun g hg => (ho.lt g hg).1)
    obtain ⟨a, c, e, _, _⟩ := hf.len
    rw [← hn] at e
    subst e
    exact ⟨a, c, rfl, hf, hb⟩
  rw [← hn] at ev ⊢
  clear hv hck hn h6
  subst ev
  go_enter Try.func51, Try.ntmps51
  go_wp2_with fail
  have B1 : Hid (Below w.heap.size w ((w.alloc (.cells #[.slice va n vc] 30)).alloc (.cells #[.slice none 0 0] 30))) := ((Below.refl _ _).alloc (Nat.le_refl _) _).alloc (by simp) _
  have K1 : Hid (Blk ((w.alloc (.cells #[.slice va n vc] 30)).alloc (.cells #[.slice none 0 0] 30)) (w.heap.size + 1) #[.slice none 0 0] 30) := by
    have := Blk.new (w.alloc (.cells #[.slice va n vc] 30)) #[.slice none 0 0] 30
    simpa [Hid] using this
  refine (HC.out _ B1.out).mono ?_
  rintro e w2 ⟨a2, c2, rfl, HF, hb2⟩
  have B2 : Hid (Below w.heap.size w w2) := B1.out.trans (hb2.mono B1.out.size)
  have K2 := K1.out.below hb2 K1.out.lt
  have r0 := K2.one
  have r1 := K2.free 0
  have c9 : (w2.setCell ⟨w.heap.size + 1, 0, none⟩ (.slice a2 n c2)).cell? ⟨w.heap.size + 1, 0, none⟩ = some (.slice a2 n c2) := (K2.set 0 _).cell rfl
  have F9 : Hid (FrsIn (fun g => w.heap.size ≤ g) (w2.setCell ⟨w.heap.size + 1, 0, none⟩ (.slice a2 n c2)) (.slice a2 n c2) l) := HF.out.to (SameOn.setCell (fun g hg => by simp at hg ⊢; omega) _) (fun g _ hg => by simp at hg; omega)
  clear hb2 K1 B1 K2 HF
  go_wp2
  exact bodyPost_ret (v := .agg #[.slice a2 n c2]) (by simp [results, Try.results51, go_sem, c9]) rfl ⟨a2, c2, rfl, F9.out, B2.out.setCell (by simp) _⟩

/-- between the steps: the box with the cells C, the result's box, the rows that are copied -/
def ClT (w U : World) (C : Array Value) (hv bv gv ov : Value) (t : Tr) : Prop :=
  Below w.heap.size w U ∧ Blk U w.heap.size C 34 ∧
  Blk U (w.heap.size + 1) #[.int .i64 0, .int .i64 0, .slice none 0 0, .slice none 0 0, .int .i64 0, .slice none 0 0, .slice none 0 0] 34 ∧
  w.heap.size + 2 ≤ U.heap.size ∧ TrIn (fun g => g < w.heap.size) U hv bv gv ov t
theorem ClT.go {w U U' : World} {C : Array Value} {hv bv gv ov : Value} {t : Tr} (h : ClT w U C hv bv gv ov t) (hb : Below U.heap.size U U') : ClT w U' C hv bv gv ov t := by
  obtain ⟨h1, h2, h3, h4, h5⟩ := h
  exact ⟨h1.trans (hb.mono h1.size), h2.below hb h2.lt, h3.below hb h3.lt, Nat.le_trans h4 hb.size, h5.below hb⟩
theorem ClT.set {w U : World} {C : Array Value} {hv bv gv ov : Value} {t : Tr} (h : ClT w U C hv bv gv ov t) (i : Nat) (v : Value) : ClT w (U.setCell ⟨w.heap.size, i, none⟩ v) (C.setIfInBounds i v) hv bv gv ov t := by
  obtain ⟨h1, h2, h3, h4, h5⟩ := h
  exact ⟨h1.setCell (by simp) _, h2.set i v, h3.other (a := ⟨w.heap.size, i, none⟩) (by simp) v, by simpa using h4, h5.to (SameOn.setCell (fun g hg => by simp at hg ⊢; omega) _) (fun g _ hg => hg)⟩
theorem sls_set {w U : World} {v : Value} {l : List Sk} (h : SlsIn (fun g => w.heap.size + 2 ≤ g) U v l) (i : Nat) (u : Value) : SlsIn (fun g => w.heap.size + 2 ≤ g) (U.setCell ⟨w.heap.size, i, none⟩ u) v l :=
  h.to (SameOn.setCell (fun g hg => by simp at hg ⊢; omega) _) (fun g _ hg => hg)
theorem grs_set {w U : World} {v : Value} {l : List (List Fr)} (h : GrsIn (fun g => w.heap.size + 2 ≤ g) U v l) (i : Nat) (u : Value) : GrsIn (fun g => w.heap.size + 2 ≤ g) (U.setCell ⟨w.heap.size, i, none⟩ u) v l :=
  h.to (SameOn.setCell (fun g hg => by simp at hg ⊢; omega) _) (fun g _ hg => hg)
theorem frs_set {w U : World} {v : Value} {l : List Fr} (h : FrsIn (fun g => w.heap.size + 2 ≤ g) U v l) (i : Nat) (u : Value) : FrsIn (fun g => w.heap.size + 2 ≤ g) (U.setCell ⟨w.heap.size, i, none⟩ u) v l :=
  h.to (SameOn.setCell (fun g hg => by simp at hg ⊢; omega) _) (fun g _ hg => hg)
/-- what the result's box holds, written cell by cell -/
theorem seven_out {w : World} {A : Nat} {t : TypeId} (h : Blk w A #[.int .i64 0, .int .i64 0, .slice none 0 0, .slice none 0 0, .int .i64 0, .slice none 0 0, .slice none 0 0] t) (x0 x1 x2 x3 x4 x5 x6 : Value) :
    Blk (((((((w.setCell ⟨A, 0, none⟩ x0).setCell ⟨A, 1, none⟩ x1).setCell ⟨A, 2, none⟩ x2).setCell ⟨A, 3, none⟩ x3).setCell ⟨A, 4, none⟩ x4).setCell ⟨A, 5, none⟩ x5).setCell ⟨A, 6, none⟩ x6) A #[x0, x1, x2, x3, x4, x5, x6] t :=
  ((((((h.set 0 x0).set 1 x1).set 2 x2).set 3 x3).set 4 x4).set 5 x5).set 6 x6

set_option maxHeartbeats 8000000 in
set_option maxRecDepth 100000 in
theorem cloneTrack_any (S : Nat → Prop) (t : Tr) (hv bv gv ov : Value) (w : World) (hr : TrIn S w hv bv gv ov t) (hck : t.chk = 0) :
    Calls Try.prog 33 #[.agg #[.int .i64 t.last, .int .i64 t.next, hv, bv, .int .i64 t.first, gv, ov]] w fun e w' => ∃ hv' bv' gv' ov', e = .returned (.agg #[.int .i64 t.last, .int .i64 t.next, hv', bv', .int .i64 t.first, gv', ov']) ∧ TrIn (fun g => w.heap.size ≤ g) w' hv' bv' gv' ov' t ∧ Below w.heap.size w w' := by
  obtain ⟨_, hR, hO, hS, _⟩ := Tr.chk_zero.1 hck
  obtain ⟨_, hl4, hch, _⟩ := hR
  obtain ⟨ho3, _, hco⟩ := ochk_len hO
  obtain ⟨_, _, hL5, hLg, _, hOg⟩ := stchk_zero.1 hS
  have h6 : t.O.length ≤ 6 ∧ ∀ k, k < t.O.length → (frAt t.O k).chk = 0 := by
    rcases hOg with h | h
    · rw [h]; exact ⟨by simp, fun k hk => absurd hk (by simp)⟩
    · obtain ⟨_, h1, h2⟩ := gchk_zero.1 h
      exact ⟨h1, fun k hk => (h2 k hk).1⟩
  obtain ⟨ha, hc, ba', bc, ga, gc, oa, oc, eh, eb, eg, eo⟩ := hr.slices
  have hr' : TrIn (fun g => g < w.heap.size) w hv bv gv ov t := hr.mono fun g hg _ => hg
  obtain ⟨nh, hnh⟩ : ∃ n, n = t.h.length := ⟨_, rfl⟩
  obtain ⟨no, hno⟩ : ∃ n, n = t.o.length := ⟨_, rfl⟩
  obtain ⟨ng, hng⟩ : ∃ n, n = t.L.length := ⟨_, rfl⟩
  obtain ⟨nO, hnO⟩ : ∃ n, n = t.O.length := ⟨_, rfl⟩
  have H1 : Hid (∀ U C, ClT w U C hv bv gv ov t → Calls Try.prog 44 #[hv] U fun e w' => ∃ a c, e = .returned (.slice a nh c) ∧ Hid (SlsIn (fun g => w.heap.size + 2 ≤ g) w' (.slice a nh c) t.h) ∧ Below U.heap.size U w') := fun U C hU => by
    refine (copyAll_any hv t.h U hU.2.2.2.2.1.1 (by omega) (fun x hx => Sk.chk_short (hch x hx))).mono ?_
    rintro e w' ⟨u, rfl, ho, hb⟩
    have hf : SlsIn (fun g => w.heap.size + 2 ≤ g) w' u t.h := SlsIn.of (Sls.of_owns ho) (by omega) (fun g hg _ => Nat.le_trans hU.2.2.2.1 (owns_blk ho hg).1)
    obtain ⟨a, c, e⟩ := hf.len
    rw [← hnh] at e
    subst e
    exact ⟨a, c, rfl, hf, hb⟩
  have H2 : Hid (∀ U C, ClT w U C hv bv gv ov t → Calls Try.prog 44 #[bv] U fun e w' => ∃ a c, e = .returned (.slice a no c) ∧ Hid (SlsIn (fun g => w.heap.size + 2 ≤ g) w' (.slice a no c) t.o) ∧ Below U.heap.size U w') := fun U C hU => by
    refine (copyAll_any bv t.o U hU.2.2.2.2.2.1.1 (by omega) (fun x hx => Sk.chk_short (hco x hx))).mono ?_
    rintro e w' ⟨u, rfl, ho, hb⟩
    have hf : SlsIn (fun g => w.heap.size + 2 ≤ g) w' u t.o := SlsIn.of (Sls.of_owns ho) (by omega) (fun g hg _ => Nat.le_trans hU.2.2.2.1 (owns_blk ho hg).1)
    obtain ⟨a, c, e⟩ := hf.len
    rw [← hno] at e
    subst e
    exact ⟨a, c, rfl, hf, hb⟩
  have H3 : Hid (∀ U C, ClT w U C hv bv gv ov t → Calls Try.prog 50 #[gv] U fun e w' => ∃ a c, e = .returned (.slice a ng c) ∧ Hid (GrsIn (fun g => w.heap.size + 2 ≤ g) w' (.slice a ng c) t.L) ∧ Below U.heap.size U w') := fun U C hU => by
    refine (cloneGroups_any _ gv t.L U hU.2.2.2.2.2.2.1 (by omega) hLg).mono ?_
    rintro e w' ⟨u, rfl, ho, hb⟩
    have hf : GrsIn (fun g => w.heap.size + 2 ≤ g) w' u t.L := ho.grsIn (fun g _ h => Nat.le_trans hU.2.2.2.1 h.1) (fun g hg => Nat.le_trans hU.2.2.2.1 (ho.lt g hg).1)
    obtain ⟨a, c, e, _, _⟩ := hf.len
    rw [← hng] at e
    subst e
    exact ⟨a, c, rfl, hf, hb⟩
  have H4 : Hid (∀ U C, ClT w U C hv bv gv ov t → Calls Try.prog 51 #[.agg #[ov]] U fun e w' => ∃ a c, e = .returned (.agg #[.slice a nO c]) ∧ Hid (FrsIn (fun g => w.heap.size + 2 ≤ g) w' (.slice a nO c) t.O) ∧ Below U.heap.size U w') := fun U C hU => by
    refine (cloneGroupO_any _ ov t.O U hU.2.2.2.2.2.2.2 h6.1 h6.2).mono ?_
    rintro e w' ⟨a, c, rfl, hf, hb⟩
    rw [← hnO] at hf ⊢
    exact ⟨a, c, rfl, hf.mono fun g _ h => Nat.le_trans hU.2.2.2.1 h, hb⟩
  rw [← hnh] at eh
  rw [← hno] at eb
  rw [← hng] at eg
  rw [← hnO] at eo
  obtain ⟨last, hla⟩ : ∃ x, x = t.last := ⟨_, rfl⟩
  obtain ⟨next, hne⟩ : ∃ x, x = t.next := ⟨_, rfl⟩
  obtain ⟨first, hfi⟩ : ∃ x, x = t.first := ⟨_, rfl⟩
  rw [← hla, ← hne, ← hfi]
  have HI : Hid (ClT w ((w.alloc (.cells #[.int .i64 last, .int .i64 next, hv, bv, .int .i64 first, gv, ov] 34)).alloc (.cells #[.int .i64 0, .int .i64 0, .slice none 0 0, .slice none 0 0, .int .i64 0, .slice none 0 0, .slice none 0 0] 34)) #[.int .i64 last, .int .i64 next, hv, bv, .int .i64 first, gv, ov] hv bv gv ov t) := by
    have b1 : Below w.heap.size w (w.alloc (.cells #[.int .i64 last, .int .i64 next, hv, bv, .int .i64 first, gv, ov] 34)) := (Below.refl _ _).alloc (Nat.le_refl _) _
    have k1 := Blk.new w #[.int .i64 last, .int .i64 next, hv, bv, .int .i64 first, gv, ov] 34
    have k2 := Blk.new (w.alloc (.cells #[.int .i64 last, .int .i64 next, hv, bv, .int .i64 first, gv, ov] 34)) #[.int .i64 0, .int .i64 0, .slice none 0 0, .slice none 0 0, .int .i64 0, .slice none 0 0, .slice none 0 0] 34
    have b2 : Below w.heap.size w ((w.alloc (.cells #[.int .i64 last, .int .i64 next, hv, bv, .int .i64 first, gv, ov] 34)).alloc (.cells #[.int .i64 0, .int .i64 0, .slice none 0 0, .slice none 0 0, .int .i64 0, .slice none 0 0, .slice none 0 0] 34)) := b1.alloc (by simp) _
    exact ⟨b2, k1.below ((Below.refl _ _).alloc (Nat.le_refl _) _) k1.lt, by simpa using k2, by simp, hr'.below b2⟩
  clear hla hne hfi hr hr' hck hO hS hl4 hch ho3 hco hL5 hLg hOg h6 hnh hno hng hnO
  subst eh eb eg eo
  go_enter Try.func33, Try.ntmps33
  obtain ⟨W, hW⟩ : ∃ W, W = (w.alloc (.cells #[.int .i64 last, .int .i64 next, .slice ha nh hc, .slice ba' no bc, .int .i64 first, .slice ga ng gc, .slice oa nO oc] 34)).alloc (.cells #[.int .i64 0, .int .i64 0, .slice none 0 0, .slice none 0 0, .int .i64 0, .slice none 0 0, .slice none 0 0] 34) := ⟨_, rfl⟩
  rw [← hW] at HI
  go_wp2_with fail
  rw [← hW]
  clear hW
  refine (H1.out W _ HI.out).mono ?_
  rintro e w1 ⟨a1, c1, rfl, D1, b1⟩
  have HI1 := HI.out.go b1
  clear b1 HI H1
  have f := HI1.2.1.free 2
  obtain ⟨y0, y1, y2, y3, y4, y5, y6⟩ := HI1.2.1.sevenc
  have J1 : Hid (ClT w (w1.setCell ⟨w.heap.size, 2, none⟩ (.slice a1 nh c1)) #[.int .i64 last, .int .i64 next, .slice a1 nh c1, .slice ba' no bc, .int .i64 first, .slice ga ng gc, .slice oa nO oc] (.slice ha nh hc) (.slice ba' no bc) (.slice ga ng gc) (.slice oa nO oc) t) := HI1.set 2 (.slice a1 nh c1)
  have D1' : Hid (SlsIn (fun g => w.heap.size + 2 ≤ g) (w1.setCell ⟨w.heap.size, 2, none⟩ (.slice a1 nh c1)) (.slice a1 nh c1) t.h) := sls_set D1.out 2 _
  clear D1 HI1
  go_wp2_with fail
  refine (H2.out _ _ J1.out).mono ?_
  rintro e w2 ⟨a2, c2, rfl, D2, b1⟩
  clear f y0 y1 y2 y3 y4 y5 y6
  have HI2 := J1.out.go b1
  have D1 : Hid (SlsIn (fun g => w.heap.size + 2 ≤ g) w2 (.slice a1 nh c1) t.h) := D1'.out.below b1
  clear b1 J1 D1' H2
  have f := HI2.2.1.free 3
  obtain ⟨y0, y1, y2, y3, y4, y5, y6⟩ := HI2.2.1.sevenc
  have J2 : Hid (ClT w (w2.setCell ⟨w.heap.size, 3, none⟩ (.slice a2 no c2)) #[.int .i64 last, .int .i64 next, .slice a1 nh c1, .slice a2 no c2, .int .i64 first, .slice ga ng gc, .slice oa nO oc] (.slice ha nh hc) (.slice ba' no bc) (.slice ga ng gc) (.slice oa nO oc) t) := HI2.set 3 (.slice a2 no c2)
  have D1' : Hid (SlsIn (fun g => w.heap.size + 2 ≤ g) (w2.setCell ⟨w.heap.size, 3, none⟩ (.slice a2 no c2)) (.slice a1 nh c1) t.h) := sls_set D1.out 3 _
  have D2' : Hid (SlsIn (fun g => w.heap.size + 2 ≤ g) (w2.setCell ⟨w.heap.size, 3, none⟩ (.slice a2 no c2)) (.slice a2 no c2) t.o) := sls_set D2.out 3 _
  clear D1 D2 HI2
  go_wp2_with fail
  refine (H3.out _ _ J2.out).mono ?_
  rintro e w3 ⟨a3, c3, rfl, D3, b1⟩
  clear f y0 y1 y2 y3 y4 y5 y6
  have HI3 := J2.out.go b1
  have D1 : Hid (SlsIn (fun g => w.heap.size + 2 ≤ g) w3 (.slice a1 nh c1) t.h) := D1'.out.below b1
  have D2 : Hid (SlsIn (fun g => w.heap.size + 2 ≤ g) w3 (.slice a2 no c2) t.o) := D2'.out.below b1
  clear b1 J2 D1' D2' H3
  have f := HI3.2.1.free 5
  obtain ⟨y0, y1, y2, y3, y4, y5, y6⟩ := HI3.2.1.sevenc
  have J3 : Hid (ClT w (w3.setCell ⟨w.heap.size, 5, none⟩ (.slice a3 ng c3)) #[.int .i64 last, .int .i64 next, .slice a1 nh c1, .slice a2 no c2, .int .i64 first, .slice a3 ng c3, .slice oa nO oc] (.slice ha nh hc) (.slice ba' no bc) (.slice ga ng gc) (.slice oa nO oc) t) := HI3.set 5 (.slice a3 ng c3)
  have D1' : Hid (SlsIn (fun g => w.heap.size + 2 ≤ g) (w3.setCell ⟨w.heap.size, 5, none⟩ (.slice a3 ng c3)) (.slice a1 nh c1) t.h) := sls_set D1.out 5 _
  have D2' : Hid (SlsIn (fun g => w.heap.size + 2 ≤ g) (w3.setCell ⟨w.heap.size, 5, none⟩ (.slice a3 ng c3)) (.slice a2 no c2) t.o) := sls_set D2.out 5 _
  have D3' : Hid (GrsIn (fun g => w.heap.size + 2 ≤ g) (w3.setCell ⟨w.heap.size, 5, none⟩ (.slice a3 ng c3)) (.slice a3 ng c3) t.L) := grs_set D3.out 5 _
  clear D1 D2 D3 HI3
  go_wp2_with fail
  refine (H4.out _ _ J3.out).mono ?_
  rintro e w4 ⟨a4, c4, rfl, D4, b1⟩
  clear f y0 y1 y2 y3 y4 y5 y6
  have HI4 := J3.out.go b1
  have D1 : Hid (SlsIn (fun g => w.heap.size + 2 ≤ g) w4 (.slice a1 nh c1) t.h) := D1'.out.below b1
  have D2 : Hid (SlsIn (fun g => w.heap.size + 2 ≤ g) w4 (.slice a2 no c2) t.o) := D2'.out.below b1
  have D3 : Hid (GrsIn (fun g => w.heap.size + 2 ≤ g) w4 (.slice a3 ng c3) t.L) := D3'.out.below b1
  clear b1 J3 D1' D2' D3' H4
  have f := HI4.2.1.free 6
  obtain ⟨y0, y1, y2, y3, y4, y5, y6⟩ := HI4.2.1.sevenc
  obtain ⟨W, hW⟩ : ∃ W, W = w4.setCell ⟨w.heap.size, 6, none⟩ (.slice a4 nO c4) := ⟨_, rfl⟩
  have J4 : Hid (ClT w W #[.int .i64 last, .int .i64 next, .slice a1 nh c1, .slice a2 no c2, .int .i64 first, .slice a3 ng c3, .slice a4 nO c4] (.slice ha nh hc) (.slice ba' no bc) (.slice ga ng gc) (.slice oa nO oc) t) := by rw [hW]; exact HI4.set 6 (.slice a4 nO c4)
  have DD : Hid (TrIn (fun g => w.heap.size + 2 ≤ g) W (.slice a1 nh c1) (.slice a2 no c2) (.slice a3 ng c3) (.slice a4 nO c4) t) := by rw [hW]; exact ⟨sls_set D1.out 6 _, sls_set D2.out 6 _, grs_set D3.out 6 _, frs_set D4.out 6 _⟩
  obtain ⟨z0, z1, z2, z3, z4, z5, z6⟩ := HI4.2.2.1.sevenc
  have g0 := HI4.2.2.1.free 0
  have g1 := HI4.2.2.1.free 1
  have g2 := HI4.2.2.1.free 2
  have g3 := HI4.2.2.1.free 3
  have g4 := HI4.2.2.1.free 4
  have g5 := HI4.2.2.1.free 5
  have g6 := HI4.2.2.1.free 6
  clear D1 D2 D3 D4 HI4
  go_wp2_with fail
  clear f y0 y1 y2 y3 y4 y5 y6 z0 z1 z2 z3 z4 z5 z6 g0 g1 g2 g3 g4 g5 g6
  rw [← hW]
  clear hW
  have KZ := seven_out J4.out.2.2.1 (.int .i64 last) (.int .i64 next) (.slice a1 nh c1) (.slice a2 no c2) (.int .i64 first) (.slice a3 ng c3) (.slice a4 nO c4)
  have hsame : SameOn (fun g => w.heap.size + 2 ≤ g) W (((((((W.setCell ⟨w.heap.size + 1, 0, none⟩ (.int .i64 last)).setCell ⟨w.heap.size + 1, 1, none⟩ (.int .i64 next)).setCell ⟨w.heap.size + 1, 2, none⟩ (.slice a1 nh c1)).setCell ⟨w.heap.size + 1, 3, none⟩ (.slice a2 no c2)).setCell ⟨w.heap.size + 1, 4, none⟩ (.int .i64 first)).setCell ⟨w.heap.size + 1, 5, none⟩ (.slice a3 ng c3)).setCell ⟨w.heap.size + 1, 6, none⟩ (.slice a4 nO c4)) := by
    refine ⟨by simp, fun g _ hg => ?_⟩
    have hne : g ≠ w.heap.size + 1 := by omega
    iterate 6 refine (Below.heap_setCell _ _ _ _ (by exact hne)).trans ?_
    exact Below.heap_setCell _ _ _ _ (by exact hne)
  have RES := DD.out.to (S' := fun g => w.heap.size ≤ g) hsame (fun g _ hg => by omega)
  have BZ : Below w.heap.size w (((((((W.setCell ⟨w.heap.size + 1, 0, none⟩ (.int .i64 last)).setCell ⟨w.heap.size + 1, 1, none⟩ (.int .i64 next)).setCell ⟨w.heap.size + 1, 2, none⟩ (.slice a1 nh c1)).setCell ⟨w.heap.size + 1, 3, none⟩ (.slice a2 no c2)).setCell ⟨w.heap.size + 1, 4, none⟩ (.int .i64 first)).setCell ⟨w.heap.size + 1, 5, none⟩ (.slice a3 ng c3)).setCell ⟨w.heap.size + 1, 6, none⟩ (.slice a4 nO c4)) :=
    ((((((J4.out.1.setCell (by simp) _).setCell (by simp) _).setCell (by simp) _).setCell (by simp) _).setCell (by simp) _).setCell (by simp) _).setCell (by simp) _
  obtain ⟨Z, hZ⟩ : ∃ Z, Z = (((((((W.setCell ⟨w.heap.size + 1, 0, none⟩ (.int .i64 last)).setCell ⟨w.heap.size + 1, 1, none⟩ (.int .i64 next)).setCell ⟨w.heap.size + 1, 2, none⟩ (.slice a1 nh c1)).setCell ⟨w.heap.size + 1, 3, none⟩ (.slice a2 no c2)).setCell ⟨w.heap.size + 1, 4, none⟩ (.int .i64 first)).setCell ⟨w.heap.size + 1, 5, none⟩ (.slice a3 ng c3)).setCell ⟨w.heap.size + 1, 6, none⟩ (.slice a4 nO c4)) := ⟨_, rfl⟩
  rw [← hZ] at KZ RES BZ ⊢
  clear hZ hsame J4 DD
  obtain ⟨q0, q1, q2, q3, q4, q5, q6⟩ := KZ.sevenc
  exact bodyPost_ret (v := .agg #[.int .i64 last, .int .i64 next, .slice a1 nh c1, .slice a2 no c2, .int .i64 first, .slice a3 ng c3, .slice a4 nO c4]) (by simp [results, Try.results33, go_sem, q0, q1, q2, q3, q4, q5, q6]) rfl ⟨_, _, _, _, rfl, RES, BZ⟩

end Go.Proofs.Ytnpaejknoipicag

namespace Go.Proofs.Ytnpaejknoipicag
open Go.RowKit

set_option maxHeartbeats 4000000 in
set_option maxRecDepth 100000 in
theorem trkBuilder_any (v : Value) (l : List Sk) (w : World) (hv : Sls w v l) (hlen : l.length ≤ 9223372036854775807) :
    Calls Try.prog 14 #[.agg #[v]] w fun e w' => e = .returned (.int .i64 (ochk l)) ∧ Below w.heap.size w w' := by
  obtain ⟨a, c, ev⟩ := hv.len
  obtain ⟨n, hn⟩ : ∃ n, n = l.length := ⟨_, rfl⟩
  rw [← hn] at ev
  obtain ⟨E, hE⟩ : ∃ E, E = ochk l := ⟨_, rfl⟩
  have hx : (Sk.mk 65536 Pk.zero).chk = 0 := by decide
  have HADD : Hid (∀ W : World, Below w.heap.size w W → Calls Try.prog 30 #[.agg #[v], .agg #[.int .i64 65536, .int .i64 0, .int .i64 0, .bool false, .bool false, .bool false, .string ⟨#[]⟩]] W fun e w' => ∃ oa on oc pa pn pc T K B, e = .returned (.tuple #[.agg #[.slice oa on oc], .agg #[.int .i64 T, .bool K, .slice pa pn pc], .bool B, .int .i64 E]) ∧ Below W.heap.size W w') := fun W hW => by
    refine (frameAdd_any v l ⟨65536, Pk.zero⟩ W (hv.below hW) hlen).mono ?_
    rintro e w' ⟨ov, pv, rfl, ⟨h1, h2, _⟩, h5⟩
    have e0 : addE l ⟨65536, Pk.zero⟩ = E := by
      unfold addE; rw [hE]
      by_cases h : ochk l = 0
      · rw [if_pos h, hx, h]
      · rw [if_neg h]
    obtain ⟨oa, oc, e1⟩ := h1.len
    obtain ⟨pa, pc, e2⟩ := h2.len
    subst e1 e2
    rw [e0]
    exact ⟨oa, _, oc, pa, _, pc, _, _, _, rfl, h5⟩
  rw [← hE]
  clear hE hx hn hv
  subst ev
  obtain ⟨W, hW⟩ : ∃ W, W = w.alloc (.cells #[.slice a n c] 26) := ⟨_, rfl⟩
  have HB : Hid (Below w.heap.size w W) := by rw [hW]; exact (Below.refl _ _).alloc (Nat.le_refl _) _
  go_enter Try.func14, Try.ntmps14
  go_wp2_with fail
  rw [← hW]
  clear hW
  refine (HADD.out W HB.out).mono ?_
  rintro e w1 ⟨oa, on, oc, pa, pn, pc, T, K, B, rfl, b1⟩
  have B1 : Hid (Below w.heap.size w w1) := HB.out.trans (b1.mono HB.out.size)
  obtain ⟨W2, hW2⟩ : ∃ W, W = (w1.alloc (.cells #[.slice oa on oc] 26)).alloc (.cells #[.int .i64 T, .bool K, .slice pa pn pc] 67) := ⟨_, rfl⟩
  have B2 : Hid (Below w.heap.size w W2) := by
    rw [hW2]; exact (B1.out.alloc B1.out.size _).alloc (by have := B1.out.size; simp; omega) _
  clear b1 B1
  go_wp2
  rw [← hW2]
  go_ret
  exact ⟨rfl, B2.out⟩

set_option maxHeartbeats 8000000 in
set_option maxRecDepth 100000 in
theorem trkCheck_any (S : Nat → Prop) (t : Tr) (hv bv gv ov : Value) (w : World) (hr : TrIn S w hv bv gv ov t) :
    Calls Try.prog 5 #[.agg #[.int .i64 t.last, .int .i64 t.next, hv, bv, .int .i64 t.first, gv, ov]] w fun e w' => e = .returned (.int .i64 t.chk) ∧ Below w.heap.size w w' := by
  obtain ⟨ha, hc, ba', bc, ga, gc, oa, oc, eh, eb, eg, eo⟩ := hr.slices
  obtain ⟨last, hlast⟩ : ∃ x, x = t.last := ⟨_, rfl⟩
  obtain ⟨next, hnext⟩ : ∃ x, x = t.next := ⟨_, rfl⟩
  obtain ⟨first, hfirst⟩ : ∃ x, x = t.first := ⟨_, rfl⟩
  obtain ⟨hn, hhn⟩ : ∃ x, x = t.h.length := ⟨_, rfl⟩
  obtain ⟨bn, hbn⟩ : ∃ x, x = t.o.length := ⟨_, rfl⟩
  obtain ⟨ln, hln⟩ : ∃ x, x = t.L.length := ⟨_, rfl⟩
  obtain ⟨lo, hlo⟩ : ∃ x, x = t.O.length := ⟨_, rfl⟩
  rw [← hhn] at eh
  rw [← hbn] at eb
  rw [← hln] at eg
  rw [← hlo] at eo
  obtain ⟨NB, hNB⟩ : ∃ b, b = Cn.isNB last := ⟨_, rfl⟩
  obtain ⟨EW, hEW⟩ : ∃ e : Int, e = if NB then 0 else 3 := ⟨_, rfl⟩
  have HEW : Hid (EW = if NB then 0 else 3) := hEW
  obtain ⟨BE, hBE⟩ : ∃ b, b = bchk next t.h := ⟨_, rfl⟩
  obtain ⟨OE, hOE⟩ : ∃ b, b = ochk t.o := ⟨_, rfl⟩
  obtain ⟨SE, hSE⟩ : ∃ b, b = stchk first t.L t.O := ⟨_, rfl⟩
  obtain ⟨C, hC⟩ : ∃ b, b = t.chk := ⟨_, rfl⟩
  have HC : Hid (C = if ¬ last = 0 ∧ NB = false then 3 else if BE = 0 then (if OE = 0 then (if SE = 0 then (if (last == 0) = (next == 0) then 0 else 4) else SE) else OE) else BE) := by
    show C = _
    rw [hC, hNB, hBE, hOE, hSE, hlast, hnext, hfirst]; rfl
  have HWR : Hid (∀ W : World, Calls Try.prog 12 #[.int .i64 last] W fun e w' => ∃ x, e = .returned (.tuple #[.int .i64 x, .int .i64 EW]) ∧ W = w') := fun W => by
    refine (wrap_any last W).mono ?_
    rintro e w' ⟨rfl, rfl⟩
    exact ⟨Cn.wrN last, by rw [hEW, hNB]; rfl, rfl⟩
  have HBC : Hid (∀ W : World, Below w.heap.size w W → Calls Try.prog 13 #[.agg #[.int .i64 next, hv]] W fun e w' => e = .returned (.int .i64 BE) ∧ Below W.heap.size W w') := fun W hW => by
    rw [hBE]; exact bufCheck_any next hv t.h W (hr.1.below hW).1 hr.1.2.1
  have HOC : Hid (∀ W : World, Below w.heap.size w W → Calls Try.prog 14 #[.agg #[bv]] W fun e w' => e = .returned (.int .i64 OE) ∧ Below W.heap.size W w') := fun W hW => by
    rw [hOE]; exact trkBuilder_any bv t.o W (hr.2.1.below hW).1 hr.2.1.2.1
  have HSC : Hid (∀ W : World, Below w.heap.size w W → Calls Try.prog 15 #[.agg #[.int .i64 first, gv, ov]] W fun e w' => e = .returned (.int .i64 SE) ∧ Below W.heap.size W w') := fun W hW => by
    rw [hSE]; exact storeCheck_any S first gv ov t.L t.O W (hr.2.2.1.below hW) (hr.2.2.2.below hW)
  rw [← hlast, ← hnext, ← hfirst, ← hC]
  clear hlast hnext hfirst hhn hbn hln hlo hNB hBE hOE hSE hC hr hEW
  subst eh eb eg eo
  obtain ⟨W0, hW0⟩ : ∃ W, W = w.alloc (.cells #[.int .i64 last, .int .i64 next, .slice ha hn hc, .slice ba' bn bc, .int .i64 first, .slice ga ln gc, .slice oa lo oc] 34) := ⟨_, rfl⟩
  have HS0 : Hid (Stay W0 (fun U => Blk U w.heap.size #[.int .i64 last, .int .i64 next, .slice ha hn hc, .slice ba' bn bc, .int .i64 first, .slice ga ln gc, .slice oa lo oc] 34 ∧ Below w.heap.size w U)) := by
    have hb : Below w.heap.size w W0 := by rw [hW0]; exact (Below.refl _ _).alloc (Nat.le_refl _) _
    exact (Blk.newE hW0).stay.and (below_stay hb hb.size)
  obtain ⟨y0, y1, y2, y3, y4, y5, y6⟩ := HS0.out.now.1.sevenc
  go_enter Try.func5, Try.ntmps5
  go_wp2_with fail
  rw [← hW0]
  clear hW0
  refine (HWR.out W0).mono ?_
  rintro e w1 ⟨x, rfl, rfl⟩
  have BW : Hid (Below w.heap.size w W0) := HS0.out.now.2
  by_cases h1 : ¬ last = 0 ∧ NB = false
  · have hc3 : Hid (C = 3) := by show C = _; rw [HC.out, if_pos h1]
    obtain ⟨h1a, h1b⟩ := h1
    have he3 : EW = 3 := by rw [HEW.out, h1b]; rfl
    subst he3
    clear HS0
    go_wp2
    go_ret
    rw [hc3.out]
    exact ⟨rfl, BW.out⟩
  have HC2 : Hid (C = if BE = 0 then (if OE = 0 then (if SE = 0 then (if (last == 0) = (next == 0) then 0 else 4) else SE) else OE) else BE) := by show C = _; rw [HC.out, if_neg h1]
  have hcond : (EW = 0) ∨ (EW = 3 ∧ last = 0) := by
    cases hb : NB
    · right
      refine ⟨by rw [HEW.out, hb]; rfl, ?_⟩
      by_cases h : last = 0
      · exact h
      · exact absurd ⟨h, hb⟩ h1
    · left; rw [HEW.out, hb]; rfl
  clear HC h1 HEW
  go_upto_region 2 with fail
  go_cut [20] (fun s20 wc => s20 = .bool false ∧ wc = W0)
  case first =>
    rcases hcond with h | ⟨h, h'⟩
    · subst h
      go_wp2_with fail
      go_meet
      case rel => exact ⟨rfl, rfl⟩
    · subst h h'
      go_wp2_with fail
      go_meet
      case rel => exact ⟨rfl, rfl⟩
  case rest =>
    obtain ⟨rfl, rfl⟩ := hcut
    clear hcond HWR
    go_wp2_with fail
    refine (HBC.out _ BW.out).mono ?_
    rintro e w1 ⟨rfl, b1⟩
    have HS1 := Stay.go HS0 b1
    clear b1 HS0 BW y0 y1 y2 y3 y4 y5 y6
    have BW : Hid (Below w.heap.size w w1) := HS1.out.now.2
    by_cases h1 : BE = 0
    case neg =>
      have hc3 : Hid (C = BE) := by show C = _; rw [HC2.out, if_neg h1]
      clear HS1
      go_wp2
      go_ret
      rw [hc3.out]
      exact ⟨rfl, BW.out⟩
    have HC3 : Hid (C = if OE = 0 then (if SE = 0 then (if (last == 0) = (next == 0) then 0 else 4) else SE) else OE) := by show C = _; rw [HC2.out, if_pos h1]
    subst h1
    clear HC2
    obtain ⟨y0, y1, y2, y3, y4, y5, y6⟩ := HS1.out.now.1.sevenc
    go_wp2_with fail
    refine (HOC.out _ BW.out).mono ?_
    rintro e w2 ⟨rfl, b1⟩
    have HS2 := Stay.go HS1 b1
    clear b1 HS1 BW y0 y1 y2 y3 y4 y5 y6
    have BW : Hid (Below w.heap.size w w2) := HS2.out.now.2
    by_cases h1 : OE = 0
    case neg =>
      have hc3 : Hid (C = OE) := by show C = _; rw [HC3.out, if_neg h1]
      clear HS2
      go_wp2
      go_ret
      rw [hc3.out]
      exact ⟨rfl, BW.out⟩
    have HC4 : Hid (C = if SE = 0 then (if (last == 0) = (next == 0) then 0 else 4) else SE) := by show C = _; rw [HC3.out, if_pos h1]
    subst h1
    clear HC3
    obtain ⟨y0, y1, y2, y3, y4, y5, y6⟩ := HS2.out.now.1.sevenc
    go_wp2_with fail
    refine (HSC.out _ BW.out).mono ?_
    rintro e w3 ⟨rfl, b1⟩
    have HS3 := Stay.go HS2 b1
    clear b1 HS2 BW y0 y1 y2 y3 y4 y5 y6
    have BW : Hid (Below w.heap.size w w3) := HS3.out.now.2
    by_cases h1 : SE = 0
    case neg =>
      have hc3 : Hid (C = SE) := by show C = _; rw [HC4.out, if_neg h1]
      clear HS3
      go_wp2
      go_ret
      rw [hc3.out]
      exact ⟨rfl, BW.out⟩
    have HC5 : Hid (C = if (last == 0) = (next == 0) then 0 else 4) := by show C = _; rw [HC4.out, if_pos h1]
    subst h1
    clear HC4
    obtain ⟨y0, y1, y2, y3, y4, y5, y6⟩ := HS3.out.now.1.sevenc
    clear HS3
    cases hl : (last == 0) <;> cases hx : (next == 0)
    · have hc3 : Hid (C = 0) := by show C = _; rw [HC5.out, hl, hx]; rfl
      go_wp2
      go_ret
      rw [hc3.out]
      exact ⟨rfl, BW.out⟩
    · have hc3 : Hid (C = 4) := by show C = _; rw [HC5.out, hl, hx]; rfl
      go_wp2
      go_ret
      rw [hc3.out]
      exact ⟨rfl, BW.out⟩
    · have hc3 : Hid (C = 4) := by show C = _; rw [HC5.out, hl, hx]; rfl
      go_wp2
      go_ret
      rw [hc3.out]
      exact ⟨rfl, BW.out⟩
    · have hc3 : Hid (C = 0) := by show C = _; rw [HC5.out, hl, hx]; rfl
      go_wp2
      go_ret
      rw [hc3.out]
      exact ⟨rfl, BW.out⟩

end Go.Proofs.Ytnpaejknoipicag

namespace Go.Proofs.Ytnpaejknoipicag
open Go.RowKit

section
variable {P : Program} {Q : Exit → Act → World → Prop}

/-- an operation that is done, or whose guard is not met -/
def StepG (P : Program) (ops : Array Oper) (o : Oper) (a : Act) (w : World) (K : Act → World → Prop) (Q : Exit → Act → World → Prop) : Prop :=
  (Region.wanted o (yielded ops a.tmps) = true ∧ o.wp P a w K Q) ∨ (Region.wanted o (yielded ops a.tmps) = false ∧ K (a.put o.dst undef) w)
theorem StepG.mono {ops : Array Oper} {o : Oper} {a : Act} {w : World} {K K' : Act → World → Prop} (h : ∀ a w, K a w → K' a w) (hh : StepG P ops o a w K Q) : StepG P ops o a w K' Q := by
  rcases hh with ⟨h1, h2⟩ | ⟨h1, h2⟩
  · exact .inl ⟨h1, Oper.wp_mono h h2⟩
  · exact .inr ⟨h1, h _ _ h2⟩
def regOkG (l : List Oper) : Bool := dstsApart l && (l.zipIdx.all fun p => p.1.after.all fun e => decide (e.on < p.2) || !(Region.binds .any e))
/-- a slot that none of the listed ones writes -/
theorem putL_other2 {L : Array Bool} {vs : Nat → Value} {x : Operand} : ∀ (l : List Oper) (k : Nat) (a : Act), (∀ j p, l[j]? = some p → L.getD (k + j) false = true → ∀ t, p.dst = some t → x ≠ .tmp t) → (putL L vs k l a).eval x = a.eval x
  | [], _, _, _ => rfl
  | o :: r, k, a, h => by
    simp only [putL]
    rw [putL_other2 r (k + 1) _ (fun j p hp hl => h (j + 1) p (by simpa using hp) (by rw [show k + (j + 1) = k + 1 + j by omega]; exact hl))]
    split
    · rename_i hk
      exact Act.eval_put (fun t ht => h 0 o (by simp) (by simpa using hk) t ht)
    · rfl
theorem tmps_of {a : Act} {k : Nat} {b : Bool} (he : a.eval (.tmp k) = .bool b) : a.tmps[k]? = some (.bool b) := by
  simp only [Act.eval, Array.getD_eq_getD_getElem?] at he
  cases hk : a.tmps[k]? with
  | none => rw [hk] at he; simp [undef] at he
  | some v => rw [hk] at he; simpa using he
/-- what a guard looks at -/
theorem yielded_of {ops : Array Oper} {a : Act} {j k : Nat} {oj : Oper} {b : Bool} (h : ops[j]? = some oj) (hd : oj.dst = some k) (he : a.eval (.tmp k) = .bool b) : yielded ops a.tmps j = some b := by
  unfold yielded
  rw [h, Option.bind_some, hd, Option.bind_some]
  have : a.tmps[k]? = some (.bool b) := by
    simp only [Act.eval, Array.getD_eq_getD_getElem?] at he
    cases hk : a.tmps[k]? with
    | none => rw [hk] at he; simp [undef] at he
    | some v => rw [hk] at he; simpa using he
  rw [this]

theorem wpAny_invG {md : Region.Mode} {ops : Array Oper} (I : Array Bool → Act → World → Prop)
    (hstep : ∀ L a w, L.size = ops.size → I L a w → ∀ (i : Nat) (o : Oper), ops[i]? = some o → L[i]? = some false → (∀ e ∈ o.after, Region.binds md e = true → L.getD e.on false = true) → StepG P ops o a w (fun a' w' => I (L.setIfInBounds i true) a' w') Q)
    (hend : ∀ L a w, L.size = ops.size → I L a w → Region.ready md ops L = [] → Q .normal a w) :
    ∀ (fuel : Nat) (L : Array Bool) (a : Act) (w : World), L.size = ops.size → left L ≤ fuel → I L a w → wpAny P md ops Q fuel L a w
  | 0, L, a, w, hs, hf, hI => by
    have hr : Region.ready md ops L = [] := by
      rw [List.eq_nil_iff_forall_not_mem]
      intro j hj
      have h := getD_false (mem_ready.1 hj).1
      have := left_set h
      omega
    exact ⟨hr, hend L a w hs hI hr⟩
  | fuel + 1, L, a, w, hs, hf, hI => by
    refine ⟨hend L a w hs hI, fun i hi => ?_⟩
    obtain ⟨h1, o, h2, h3⟩ := mem_ready.1 hi
    have h4 := getD_false h1
    unfold wpOp
    rcases hstep L a w hs hI i o h2 h4 h3 with ⟨hw, h⟩ | ⟨hw, h⟩
    · simp only [h2, hw, if_true]
      exact .inl (Oper.wp_mono (fun a' w' h => wpAny_invG I hstep hend fuel _ a' w' (by simpa using hs) (by have := left_set h4; omega) h) h)
    · simp only [h2, hw, Bool.false_eq_true, if_false]
      exact wpAny_invG I hstep hend fuel _ _ _ (by simpa using hs) (by have := left_set h4; omega) h

theorem wp_region_invG {id : Nat} {a : Act} {w : World} {l : List Oper} (hm : P.follows .mixedOrders = true) (hB : regOkG l = true) (F : Array Bool → (Nat → Value) → World → Prop)
    (h0 : F (Array.replicate l.length false) (fun _ => undef) { w with drawn := w.drawn + 1 })
    (hstep : ∀ L vs w', F L vs w' → ∀ (i : Nat) (o : Oper), l[i]? = some o → L[i]? = some false → (∀ e ∈ o.after, Region.binds .any e = true → L.getD e.on false = true) →
      StepG P l.toArray o (putL L vs 0 l a) w' (fun a' w'' => ∃ v, a' = (putL L vs 0 l a).put o.dst v ∧ F (L.setIfInBounds i true) (upd vs i v) w'') Q)
    (hend : ∀ L vs w', F L vs w' → (∀ i, i < l.length → L.getD i false = true) → Q .normal (putL L vs 0 l a) w') : (Code.region id l.toArray true).wp P Q a w := by
  simp only [regOkG, Bool.and_eq_true] at hB
  obtain ⟨hd, hA⟩ := hB
  refine wp_region_any hm ?_
  refine wpAny_invG (md := .any) (fun L a' w' => ∃ vs, a' = putL L vs 0 l a ∧ F L vs w') ?_ ?_ _ _ _ _ (by simp) ?_ ?_
  · rintro L a' w' hs ⟨vs, rfl, hF⟩ i o ho hL hrdy
    refine StepG.mono (fun a'' w'' ⟨v, h1, h2⟩ => ?_) (hstep L vs w' hF i o (by simpa using ho) hL hrdy)
    exact ⟨upd vs i v, by rw [h1, putL_set hL l 0 a o hd (Nat.zero_le _) (by simpa using ho)], h2⟩
  · rintro L a' w' hs ⟨vs, rfl, hF⟩ hr
    refine hend L vs w' hF (fun i hi => ?_)
    have := ready_nil hs (fun i o ho e he hb => ?_) hr i (by simpa using hi)
    · simp [Array.getD_eq_getD_getElem?, this]
    · have h1 : (o, i) ∈ l.zipIdx := by
        rw [List.mem_zipIdx_iff_getElem?]; simpa using ho
      have h2 := List.all_eq_true.1 hA _ h1
      rw [Array.all_eq_true_iff_forall_mem] at h2
      simpa [hb] using h2 e he
  · simp only [left]; exact Nat.le_trans List.countP_le_length (by simp)
  · refine ⟨fun _ => undef, ?_, by simpa using h0⟩
    have : ∀ (m : List Oper) (k : Nat) (a : Act), a = putL (Array.replicate l.toArray.size false) (fun _ => undef) k m a := by
      intro m
      induction m with
      | nil => intro k a; rfl
      | cons o r ih =>
        intro k a
        simp only [putL]
        rw [if_neg (by simp [Array.getD_eq_getD_getElem?, Array.getElem?_replicate]; split <;> simp)]
        exact ih (k + 1) a
    exact this l 0 a


theorem region_chainG {id : Nat} {a : Act} {w : World} {l : List Oper} (hm : P.follows .mixedOrders = true) (hB : regOkG l = true) (ks : List Ck) (st : List Nat) (hK : chainOk ks l st a.tmps.size = true)
    (I : Nat → (Nat → Value) → World → Prop) (h0 : I 0 (fun _ => undef) { w with drawn := w.drawn + 1 })
    (hstep : ∀ i o, l[i]? = some o → ∀ (a' : Act) (w' : World) (s : Nat) (r : Nat → Value), I s r w' → (∀ s, (l.zipIdx.all fun p => p.1.dst != some s || waits l p.2 i) = true → a'.eval (.tmp s) = a.eval (.tmp s)) → (∀ j oj k, waits l i j = true → l[j]? = some oj → oj.dst = some k → a'.eval (.tmp k) = (ckAt ks j).out r) →
      match ckAt ks i with
      | .quiet v lim => s ≤ lim → (Region.wanted o (yielded l.toArray a'.tmps) = true ∧ (execOp a'.eval o).run P w' = .ok (.value v) w') ∨ (Region.wanted o (yielded l.toArray a'.tmps) = false ∧ v = undef)
      | .step t => s = t → o.guard = none ∧ o.wp P a' w' (fun a'' w'' => ∃ v, a'' = a'.put o.dst v ∧ I (t + 1) (updR r t v) w'') Q)
    (hend : ∀ (r : Nat → Value) (w' : World), I st.length r w' → Q .normal (putC r ks l a) w') :
    (Code.region id l.toArray true).wp P Q a w := by
  simp only [chainOk, Bool.and_eq_true, decide_eq_true_eq] at hK
  obtain ⟨⟨⟨hlen, hdst⟩, hst⟩, hall⟩ := hK
  have hap : dstsApart l = true := by simp only [regOkG, Bool.and_eq_true] at hB; exact hB.1
  have hal : ∀ i, i < l.length → _ := fun i hi => List.all_eq_true.1 hall i (List.mem_range.2 hi)
  have hsl : ∀ s, s < st.length → _ := fun s hs => List.all_eq_true.1 hst s (List.mem_range.2 hs)
  have hstp : ∀ s, s < st.length → ∃ i, st[s]? = some i ∧ i < l.length ∧ ckAt ks i = .step s ∧ (0 < s → ∃ j, st[s - 1]? = some j ∧ waits l i j = true) := fun s hs => by
    have h := hsl s hs
    have e : st[s]? = some st[s] := List.getElem?_eq_getElem hs
    rw [e] at h
    simp only [Bool.and_eq_true, decide_eq_true_eq, Bool.or_eq_true, beq_iff_eq] at h
    refine ⟨st[s], e, h.1.1, ?_, fun h0 => ?_⟩
    · have h2 := h.1.2
      cases hk : ckAt ks st[s] with
      | quiet v lim => rw [hk] at h2; cases h2
      | step t => rw [hk] at h2; simp at h2; rw [h2]
    · have h3 := h.2
      rcases h3 with h3 | h3
      · omega
      · have e2 : st[s - 1]? = some st[s - 1] := List.getElem?_eq_getElem (by omega)
        rw [e2] at h3
        exact ⟨_, e2, h3⟩
  have hst2 : ∀ i t, i < l.length → ckAt ks i = .step t → st[t]? = some i := fun i t hi hk => by
    have h := hal i hi
    rw [hk] at h
    simpa using h
  refine wp_region_invG hm hB (fun L vs w' => ∃ s r, RC ks l l.length st.length I (fun j => L.getD j false) vs s r w') ?_ ?_ ?_
  · have hno : ∀ j, ¬ (Array.replicate l.length false).getD j false = true := fun j => by
      simp [Array.getD_eq_getD_getElem?, Array.getElem?_replicate]; split <;> simp
    exact ⟨0, fun _ => undef, fun i h => absurd h (hno i), fun i t _ _ => ⟨fun h => absurd h (hno i), fun h => absurd h (Nat.not_lt_zero _)⟩, fun i h => absurd h (hno i), h0, Nat.zero_le _, fun _ j h => absurd h (hno j)⟩
  · rintro L vs w' ⟨s, r, F⟩ i o ho hL hr
    have hi : i < l.length := (List.getElem?_eq_some_iff.1 ho).1
    have ni : L.getD i false = false := by simpa using listed_no hL
    have hset := setfun hL
    have hwt : ∀ j, waits l i j = true → L.getD j false = true := fun j hw => waits_spec hw ho hr
    have hfree : ∀ s, (l.zipIdx.all fun p => p.1.dst != some s || waits l p.2 i) = true → (putL L vs 0 l a).eval (.tmp s) = a.eval (.tmp s) := fun s hs => putL_other2 l 0 a (fun j p hp hj t ht e => by
      injection e with e
      subst e
      rw [Nat.zero_add] at hj
      have h1 : (p, j) ∈ l.zipIdx := by rw [List.mem_zipIdx_iff_getElem?]; exact hp
      have := List.all_eq_true.1 hs _ h1
      simp only [ht, bne_self_eq_false, Bool.false_or] at this
      have h2 := F.closed i j hj this
      rw [h2] at ni
      cases ni)
    have hvals : ∀ j oj k, waits l i j = true → l[j]? = some oj → oj.dst = some k → (putL L vs 0 l a).eval (.tmp k) = (ckAt ks j).out r := fun j oj k hw hoj hk => by
      have h1 := hwt j hw
      have hk2 := List.all_eq_true.1 hdst oj (List.mem_of_getElem? hoj)
      rw [hk] at hk2
      rw [putL_at h1 l 0 a oj hap (Nat.zero_le _) (by simpa using hoj) hk (by simpa using hk2)]
      exact F.vals j h1
    have hs := hstep i o ho (putL L vs 0 l a) w' s r F.inv hfree hvals
    rw [hset]
    obtain ⟨ls, hls⟩ : ∃ ls : Nat → Bool, ls = fun j => L.getD j false := ⟨_, rfl⟩
    have hlsj : ∀ j, L.getD j false = ls j := fun j => by rw [hls]
    simp only [hlsj] at F ni hwt ⊢
    have hlt' : ∀ j, (decide (j = i) || ls j) = true → j < l.length := fun j hj => by
      simp only [Bool.or_eq_true, decide_eq_true_eq] at hj
      rcases hj with rfl | hj
      · exact hi
      · exact F.lt j hj
    have hcl : ∀ p j, (decide (j = i) || ls j) = true → waits l j p = true → (decide (p = i) || ls p) = true := fun p j hj hw => by
      simp only [Bool.or_eq_true, decide_eq_true_eq] at hj ⊢
      rcases hj with rfl | hj
      · exact .inr (hwt p hw)
      · exact .inr (F.closed p j hj hw)
    cases hk : ckAt ks i with
    | quiet v lim =>
      rw [hk] at hs
      have hle : s ≤ lim := by
        have h := hal i hi
        rw [hk] at h
        simp only [Bool.or_eq_true, decide_eq_true_eq] at h
        rcases h with h | h
        · exact Nat.le_trans F.le h
        · by_cases hlt : s ≤ lim
          · exact hlt
          · exfalso
            have hll : lim < st.length := by have := F.le; omega
            obtain ⟨j, e1, e2, e3, _⟩ := hstp lim hll
            rw [e1] at h
            have hlj := (F.steps j lim e2 e3).2 (by omega)
            rw [F.closed i j hlj h] at ni
            cases ni
      have hfin : ∃ v', (putL L vs 0 l a).put o.dst v = (putL L vs 0 l a).put o.dst v' ∧ ∃ s r, RC ks l l.length st.length I (fun j => decide (j = i) || ls j) (upd vs i v') s r w' := by
        refine ⟨v, rfl, s, r, hlt', ?_, ?_, F.inv, F.le, hcl⟩
        · intro j t hj hjk
          have e : j ≠ i := fun e => by subst e; rw [hk] at hjk; cases hjk
          simpa [e] using F.steps j t hj hjk
        · intro j hj
          by_cases e : j = i
          · subst e; rw [upd_at, hk]; rfl
          · rw [upd_ne e]; exact F.vals j (by simpa [e] using hj)
      rcases hs hle with ⟨hw, h⟩ | ⟨hw, hv⟩
      · exact .inl ⟨hw, oper_wp_ok h hfin⟩
      · exact .inr ⟨hw, by rw [← hv]; exact hfin⟩
    | step t =>
      rw [hk] at hs
      have hti := hst2 i t hi hk
      have htl : t < st.length := (List.getElem?_eq_some_iff.1 hti).1
      have hst' : s = t := by
        have h1 : ¬ t < s := fun h => by rw [(F.steps i t hi hk).2 h] at ni; cases ni
        by_cases h0 : t = 0
        · omega
        · obtain ⟨i', e1, e2, e3, e4⟩ := hstp t htl
          rw [hti] at e1
          injection e1 with e1
          subst e1
          obtain ⟨j, q1, q2⟩ := e4 (by omega)
          obtain ⟨j', r1, r2, r3, _⟩ := hstp (t - 1) (by omega)
          rw [q1] at r1
          injection r1 with r1
          subst r1
          have := (F.steps j (t - 1) r2 r3).1 (hwt j q2)
          omega
      subst hst'
      refine .inl ⟨by simp [Region.wanted, (hs rfl).1], Oper.wp_mono ?_ (hs rfl).2⟩
      rintro a'' w'' ⟨v, h1, h2⟩
      refine ⟨v, h1, s + 1, updR r s v, hlt', ?_, ?_, h2, htl, hcl⟩
      · intro j t' hj hjk
        by_cases e : j = i
        · subst e
          rw [hk] at hjk
          injection hjk with hjk
          subst hjk
          simp
        · have h3 := F.steps j t' hj hjk
          have hne : t' ≠ s := fun e' => by
            subst e'
            have := hst2 j t' hj hjk
            rw [hti] at this
            injection this with this
            exact e this.symm
          simp only [e, decide_false, Bool.false_or]
          rw [h3]; omega
      · intro j hj
        by_cases e : j = i
        · subst e; rw [upd_at, hk]; exact (updR_at r s v).symm
        · have hlj : ls j = true := by simpa [e] using hj
          rw [upd_ne e, F.vals j hlj]
          cases hkj : ckAt ks j with
          | quiet v' lim' => rfl
          | step t' =>
            have := (F.steps j t' (F.lt j hlj) hkj).1 hlj
            exact (updR_ne (by omega)).symm
  · rintro L vs w' ⟨s, r, F⟩ hlst
    have hs : s = st.length := by
      by_cases h : s < st.length
      · obtain ⟨i, e1, e2, e3, _⟩ := hstp s h
        have := (F.steps i s e2 e3).1 (hlst i e2)
        omega
      · have := F.le; omega
    subst hs
    rw [putC_all L vs r l 0 ks a hlen (fun i hi => by rw [Nat.zero_add]; exact hlst i hi) (fun i hi => by rw [Nat.zero_add]; exact F.vals i (hlst i hi))]
    exact hend r w' F.inv
end

end Go.Proofs.Ytnpaejknoipicag

namespace Go.Proofs.Ytnpaejknoipicag
open Go.RowKit

set_option maxHeartbeats 4000000 in
set_option maxRecDepth 100000 in
theorem feedFn_any (S : Nat → Prop) (M sb : Nat) (t : Tr) (s : List UInt8) (w : World) (hsb : Blk w sb #[.string (ba s)] 9) (hT : TkB S M w t (0 : Nat)) (hk : t.chk = 0) (hS : ∀ g, w.heap.size ≤ g → S g) :
    Calls Try.prog 18 #[.pointer (some ⟨M, 0, none⟩), .pointer (some ⟨sb, 0, none⟩)] w fun e w' => e = .returned (.int .i64 (feedR t s).2.2) ∧ ((feedR t s).2.2 = 0 → TkB S M w' (feedR t s).1 ((feedR t s).2.1 : Nat)) ∧ Kept [M] w w' := by
  obtain ⟨h1, h2, h3, h4, _⟩ := Tr.chk_zero.1 hk
  obtain ⟨R, hR⟩ : ∃ R, R = feedR t s := ⟨_, rfl⟩
  have HF : Hid (Calls Try.prog 19 #[.pointer (some ⟨M, 0, none⟩), .string (ba s)] w fun e w' => e = .returned (.int .i64 R.2.2) ∧ Hid (R.2.2 = 0 → TkB S M w' R.1 (R.2.1 : Nat)) ∧ Hid (Kept [M] w w')) := by rw [hR]; exact tkFeed_any S M t s w hT h1 h2 ⟨h3, h4⟩ hS
  rw [← hR]
  have c0 := hsb.one
  clear h1 h2 h3 h4 hk hR hT hS hsb
  go_enter Try.func18, Try.ntmps18
  go_wp2_with fail
  refine HF.out.mono ?_
  rintro e w1 ⟨rfl, a1, a2⟩
  go_wp2
  go_ret
  exact ⟨rfl, a1.out, a2.out⟩

set_option maxHeartbeats 4000000 in
set_option maxRecDepth 100000 in
theorem drainFn_any (S : Nat → Prop) (M : Nat) (t : Tr) (w : World) (hT : TkB S M w t (0 : Nat)) (hk : t.chk = 0) (hS : ∀ g, w.heap.size ≤ g → S g) :
    Calls Try.prog 24 #[.pointer (some ⟨M, 0, none⟩)] w fun e w' => e = .returned (.int .i64 (drainR t).2.2) ∧ ((drainR t).2.2 = 0 → TkB S M w' (drainR t).1 ((drainR t).2.1 : Nat)) ∧ Kept [M] w w' := by
  obtain ⟨h1, h2, h3, h4, _⟩ := Tr.chk_zero.1 hk
  obtain ⟨R, hR⟩ : ∃ R, R = drainR t := ⟨_, rfl⟩
  have HF : Hid (Calls Try.prog 25 #[.pointer (some ⟨M, 0, none⟩)] w fun e w' => e = .returned (.int .i64 R.2.2) ∧ Hid (R.2.2 = 0 → TkB S M w' R.1 (R.2.1 : Nat)) ∧ Hid (Kept [M] w w')) := by rw [hR]; exact tkDrain_any S M t w hT h2 ⟨h3, h4⟩ hS
  rw [← hR]
  clear h1 h2 h3 h4 hk hR hT hS
  go_enter Try.func24, Try.ntmps24
  go_wp2_with fail
  refine HF.out.mono ?_
  rintro e w1 ⟨rfl, a1, a2⟩
  go_wp2
  go_ret
  exact ⟨rfl, a1.out, a2.out⟩

/-- the result's box, written with a track of zeros -/
theorem zero_out {w : World} {A : Nat} {t : TypeId} (h : Blk w A #[.int .i64 0, .int .i64 0, .slice none 0 0, .slice none 0 0, .int .i64 0, .slice none 0 0, .slice none 0 0] t) :
    Blk (((((((w.setCell ⟨A, 0, none⟩ (.int .i64 0)).setCell ⟨A, 1, none⟩ (.int .i64 0)).setCell ⟨A, 2, none⟩ (.slice none 0 0)).setCell ⟨A, 3, none⟩ (.slice none 0 0)).setCell ⟨A, 4, none⟩ (.int .i64 0)).setCell ⟨A, 5, none⟩ (.slice none 0 0)).setCell ⟨A, 6, none⟩ (.slice none 0 0)) A #[.int .i64 0, .int .i64 0, .slice none 0 0, .slice none 0 0, .int .i64 0, .slice none 0 0, .slice none 0 0] t := seven_out h _ _ _ _ _ _ _
theorem seven_below {B A : Nat} {w V : World} (h : Below B w V) (hA : B ≤ A) (x0 x1 x2 x3 x4 x5 x6 : Value) : Below B w (((((((V.setCell ⟨A, 0, none⟩ x0).setCell ⟨A, 1, none⟩ x1).setCell ⟨A, 2, none⟩ x2).setCell ⟨A, 3, none⟩ x3).setCell ⟨A, 4, none⟩ x4).setCell ⟨A, 5, none⟩ x5).setCell ⟨A, 6, none⟩ x6) :=
  ((((((h.setCell (by exact hA) _).setCell (by exact hA) _).setCell (by exact hA) _).setCell (by exact hA) _).setCell (by exact hA) _).setCell (by exact hA) _).setCell (by exact hA) _
theorem seven_same {S : Nat → Prop} {A : Nat} {V : World} (hA : ¬ S A) (x0 x1 x2 x3 x4 x5 x6 : Value) : SameOn S V (((((((V.setCell ⟨A, 0, none⟩ x0).setCell ⟨A, 1, none⟩ x1).setCell ⟨A, 2, none⟩ x2).setCell ⟨A, 3, none⟩ x3).setCell ⟨A, 4, none⟩ x4).setCell ⟨A, 5, none⟩ x5).setCell ⟨A, 6, none⟩ x6) := by
  refine ⟨by simp, fun g _ hg => ?_⟩
  have hne : g ≠ A := fun e => hA (e ▸ hg)
  iterate 6 refine (Below.heap_setCell _ _ _ _ (by exact hne)).trans ?_
  exact Below.heap_setCell _ _ _ _ (by exact hne)

set_option maxHeartbeats 16000000 in
set_option maxRecDepth 100000 in
theorem trkChangeF_any (t : Tr) (s : List UInt8) (sb : Nat) (hv bv gv ov : Value) (w : World) (hr : TrIn (fun g => g < w.heap.size) w hv bv gv ov t) (hsb : Blk w sb #[.string (ba s)] 9) :
    Calls Try.prog 17 #[.agg #[.int .i64 t.last, .int .i64 t.next, hv, bv, .int .i64 t.first, gv, ov], .func (.func 18) #[] #[.pointer (some ⟨sb, 0, none⟩)]] w fun e w' => ∃ hv' bv' gv' ov', e = .returned (.tuple #[.agg #[.int .i64 (feedA t s).1.last, .int .i64 (feedA t s).1.next, hv', bv', .int .i64 (feedA t s).1.first, gv', ov'], .int .i64 (feedA t s).2.1, .int .i64 (feedA t s).2.2]) ∧ TrIn (fun g => w.heap.size ≤ g) w' hv' bv' gv' ov' (feedA t s).1 ∧ Below w.heap.size w w' := by
  obtain ⟨ha, hc, ba', bc, ga, gc, oa, oc, eh, eb, eg, eo⟩ := hr.slices
  obtain ⟨RT, RC, RE, hRR⟩ : ∃ RT RC RE, (RT, RC, RE) = feedR t s := ⟨_, _, _, rfl⟩
  obtain ⟨A, hA⟩ : ∃ A, A = feedA t s := ⟨_, rfl⟩
  obtain ⟨CK, hCK⟩ : ∃ c, c = t.chk := ⟨_, rfl⟩
  have HA : Hid (A = if CK = 0 then (RT, RC, RE) else (Tr.zero, 0, CK)) := by show A = _; rw [hA, hCK, hRR]; rfl
  have HHOW : Hid (CK = 0 → ∀ W M, Below w.heap.size w W → w.heap.size + 2 ≤ W.heap.size → TkB (fun g => w.heap.size + 2 ≤ g) M W t (0 : Nat) → Calls Try.prog 18 #[.pointer (some ⟨M, 0, none⟩), .pointer (some ⟨sb, 0, none⟩)] W fun e w' => e = .returned (.int .i64 RE) ∧ Hid (RE = 0 → TkB (fun g => w.heap.size + 2 ≤ g) M w' RT (RC : Nat)) ∧ Hid (Kept [M] W w')) := fun h W M hW hM hT => by
    refine (feedFn_any _ M sb t s W (hsb.below hW hsb.lt) hT (hCK ▸ h) (fun g hg => Nat.le_trans hM hg)).mono ?_
    rintro e w' ⟨rfl, a1, a2⟩
    rw [← hRR] at a1 ⊢
    exact ⟨rfl, a1, a2⟩
  have hbad : Hid (¬ RE = 0 → CK = 0 → RT = Tr.zero ∧ RC = 0) := fun h1 h2 => by
    have q := feedA_bad (t := t) (s := s)
    rw [← hA, HA.out, if_pos h2] at q
    exact q h1
  rw [← hA]
  clear hA
  have HCHK : Hid (∀ U C, ClT w U C hv bv gv ov t → Calls Try.prog 5 #[.agg #[.int .i64 t.last, .int .i64 t.next, hv, bv, .int .i64 t.first, gv, ov]] U fun e w' => e = .returned (.int .i64 CK) ∧ Below U.heap.size U w') := fun U C hU => by
    rw [hCK]; exact trkCheck_any _ t hv bv gv ov U hU.2.2.2.2
  have HCL : Hid (CK = 0 → ∀ U C, ClT w U C hv bv gv ov t → Calls Try.prog 33 #[.agg #[.int .i64 t.last, .int .i64 t.next, hv, bv, .int .i64 t.first, gv, ov]] U fun e w' => ∃ a1 n1 c1 a2 n2 c2 a3 n3 c3 a4 n4 c4, e = .returned (.agg #[.int .i64 t.last, .int .i64 t.next, .slice a1 n1 c1, .slice a2 n2 c2, .int .i64 t.first, .slice a3 n3 c3, .slice a4 n4 c4]) ∧ Hid (TrIn (fun g => w.heap.size + 2 ≤ g) w' (.slice a1 n1 c1) (.slice a2 n2 c2) (.slice a3 n3 c3) (.slice a4 n4 c4) t) ∧ Below U.heap.size U w') := fun h U C hU => by
    refine (cloneTrack_any _ t hv bv gv ov U hU.2.2.2.2 (hCK ▸ h)).mono ?_
    rintro e w' ⟨x1, x2, x3, x4, rfl, q, b⟩
    obtain ⟨a1, c1, a2, c2, a3, c3, a4, c4, e1, e2, e3, e4⟩ := q.slices
    subst e1 e2 e3 e4
    exact ⟨_, _, _, _, _, _, _, _, _, _, _, _, rfl, q.mono fun g _ hg => Nat.le_trans hU.2.2.2.1 hg, b⟩
  obtain ⟨nh, hnh⟩ : ∃ n, n = t.h.length := ⟨_, rfl⟩
  obtain ⟨no, hno⟩ : ∃ n, n = t.o.length := ⟨_, rfl⟩
  obtain ⟨ng, hng⟩ : ∃ n, n = t.L.length := ⟨_, rfl⟩
  obtain ⟨nO, hnO⟩ : ∃ n, n = t.O.length := ⟨_, rfl⟩
  rw [← hnh] at eh
  rw [← hno] at eb
  rw [← hng] at eg
  rw [← hnO] at eo
  obtain ⟨last, hla⟩ : ∃ x, x = t.last := ⟨_, rfl⟩
  obtain ⟨next, hne⟩ : ∃ x, x = t.next := ⟨_, rfl⟩
  obtain ⟨first, hfi⟩ : ∃ x, x = t.first := ⟨_, rfl⟩
  have HTK : Hid (∀ W M a1 n1 c1 a2 n2 c2 a3 n3 c3 a4 n4 c4, Blk W M #[.int .i64 last, .int .i64 next, .slice a1 n1 c1, .slice a2 n2 c2, .int .i64 first, .slice a3 n3 c3, .slice a4 n4 c4, .int .i64 0] 76 → TrIn (fun g => w.heap.size + 2 ≤ g ∧ g ≠ M) W (.slice a1 n1 c1) (.slice a2 n2 c2) (.slice a3 n3 c3) (.slice a4 n4 c4) t → TkB (fun g => w.heap.size + 2 ≤ g) M W t (0 : Nat)) := fun W M a1 n1 c1 a2 n2 c2 a3 n3 c3 a4 n4 c4 h1 h3 => by
    rw [hla, hne, hfi] at h1
    exact ⟨_, _, _, _, h1, h3⟩
  rw [← hla, ← hne, ← hfi] at HCHK HCL ⊢
  have HI : Hid (ClT w ((w.alloc (.cells #[.int .i64 last, .int .i64 next, hv, bv, .int .i64 first, gv, ov] 34)).alloc (.cells #[.int .i64 0, .int .i64 0, .slice none 0 0, .slice none 0 0, .int .i64 0, .slice none 0 0, .slice none 0 0] 34)) #[.int .i64 last, .int .i64 next, hv, bv, .int .i64 first, gv, ov] hv bv gv ov t) := by
    have b1 : Below w.heap.size w (w.alloc (.cells #[.int .i64 last, .int .i64 next, hv, bv, .int .i64 first, gv, ov] 34)) := (Below.refl _ _).alloc (Nat.le_refl _) _
    have k1 := Blk.new w #[.int .i64 last, .int .i64 next, hv, bv, .int .i64 first, gv, ov] 34
    have k2 := Blk.new (w.alloc (.cells #[.int .i64 last, .int .i64 next, hv, bv, .int .i64 first, gv, ov] 34)) #[.int .i64 0, .int .i64 0, .slice none 0 0, .slice none 0 0, .int .i64 0, .slice none 0 0, .slice none 0 0] 34
    have b2 : Below w.heap.size w ((w.alloc (.cells #[.int .i64 last, .int .i64 next, hv, bv, .int .i64 first, gv, ov] 34)).alloc (.cells #[.int .i64 0, .int .i64 0, .slice none 0 0, .slice none 0 0, .int .i64 0, .slice none 0 0, .slice none 0 0] 34)) := b1.alloc (by simp) _
    exact ⟨b2, k1.below ((Below.refl _ _).alloc (Nat.le_refl _) _) k1.lt, by simpa using k2, by simp, hr.below b2⟩
  clear hla hne hfi hr hnh hno hng hnO hsb hRR hCK
  subst eh eb eg eo
  go_enter Try.func17, Try.ntmps17
  obtain ⟨W, hW⟩ : ∃ W, W = (w.alloc (.cells #[.int .i64 last, .int .i64 next, .slice ha nh hc, .slice ba' no bc, .int .i64 first, .slice ga ng gc, .slice oa nO oc] 34)).alloc (.cells #[.int .i64 0, .int .i64 0, .slice none 0 0, .slice none 0 0, .int .i64 0, .slice none 0 0, .slice none 0 0] 34) := ⟨_, rfl⟩
  rw [← hW] at HI
  go_wp2_with fail
  rw [← hW]
  clear hW
  refine (HCHK.out W _ HI.out).mono ?_
  rintro e w1 ⟨rfl, b1⟩
  have HI1 : Hid (ClT w w1 #[.int .i64 last, .int .i64 next, .slice ha nh hc, .slice ba' no bc, .int .i64 first, .slice ga ng gc, .slice oa nO oc] (.slice ha nh hc) (.slice ba' no bc) (.slice ga ng gc) (.slice oa nO oc) t) := HI.out.go b1
  clear b1 HI HCHK W
  obtain ⟨y0, y1, y2, y3, y4, y5, y6⟩ := HI1.out.2.1.sevenc
  by_cases h1 : CK = 0
  case neg =>
    have KB : Hid (Blk w1 (w.heap.size + 1) #[.int .i64 0, .int .i64 0, .slice none 0 0, .slice none 0 0, .int .i64 0, .slice none 0 0, .slice none 0 0] 34) := HI1.out.2.2.1
    have BW : Hid (Below w.heap.size w w1) := HI1.out.1
    have HAe : Hid (A = (Tr.zero, 0, CK)) := by show A = _; rw [HA.out, if_neg h1]
    obtain ⟨z0, z1, z2, z3, z4, z5, z6⟩ := KB.out.sevenc
    have g0 := KB.out.free 0
    have g1 := KB.out.free 1
    have g2 := KB.out.free 2
    have g3 := KB.out.free 3
    have g4 := KB.out.free 4
    have g5 := KB.out.free 5
    have g6 := KB.out.free 6
    clear HHOW hbad HCL HTK HA HI1 y0 y1 y2 y3 y4 y5 y6
    go_wp2_with fail
    clear z0 z1 z2 z3 z4 z5 z6 g0 g1 g2 g3 g4 g5 g6
    have KZ := zero_out KB.out
    have BZ := seven_below BW.out (Nat.le_succ w.heap.size) (.int .i64 0) (.int .i64 0) (.slice none 0 0) (.slice none 0 0) (.int .i64 0) (.slice none 0 0) (.slice none 0 0)
    clear KB BW
    obtain ⟨Z, hZ⟩ : ∃ Z, Z = (((((((w1.setCell ⟨w.heap.size + 1, 0, none⟩ (.int .i64 0)).setCell ⟨w.heap.size + 1, 1, none⟩ (.int .i64 0)).setCell ⟨w.heap.size + 1, 2, none⟩ (.slice none 0 0)).setCell ⟨w.heap.size + 1, 3, none⟩ (.slice none 0 0)).setCell ⟨w.heap.size + 1, 4, none⟩ (.int .i64 0)).setCell ⟨w.heap.size + 1, 5, none⟩ (.slice none 0 0)).setCell ⟨w.heap.size + 1, 6, none⟩ (.slice none 0 0)) := ⟨_, rfl⟩
    rw [← hZ] at KZ BZ ⊢
    clear hZ
    obtain ⟨q0, q1, q2, q3, q4, q5, q6⟩ := KZ.sevenc
    exact bodyPost_ret (v := .tuple #[.agg #[.int .i64 0, .int .i64 0, .slice none 0 0, .slice none 0 0, .int .i64 0, .slice none 0 0, .slice none 0 0], .int .i64 0, .int .i64 CK]) (by simp [results, Try.results17, go_sem, q0, q1, q2, q3, q4, q5, q6]) rfl ⟨_, _, _, _, by rw [HAe.out]; rfl, by rw [HAe.out]; exact TrIn.zero _ _, BZ⟩
  subst h1
  have HA2 : Hid (A = (RT, RC, RE)) := by show A = _; rw [HA.out, if_pos rfl]
  clear HA
  go_wp2_with fail
  refine (HCL.out (by first | rfl | trivial) w1 _ HI1.out).mono ?_
  rintro e w2 ⟨a1, n1, c1, a2, n2, c2, a3, n3, c3, a4, n4, c4, rfl, HR2, b1⟩
  have HI2 : Hid (ClT w w2 #[.int .i64 last, .int .i64 next, .slice ha nh hc, .slice ba' no bc, .int .i64 first, .slice ga ng gc, .slice oa nO oc] (.slice ha nh hc) (.slice ba' no bc) (.slice ga ng gc) (.slice oa nO oc) t) := HI1.out.go b1
  clear b1 HI1 HCL y0 y1 y2 y3 y4 y5 y6
  obtain ⟨W3, hW3⟩ : ∃ W, W = w2.alloc (.cells #[.int .i64 last, .int .i64 next, .slice a1 n1 c1, .slice a2 n2 c2, .int .i64 first, .slice a3 n3 c3, .slice a4 n4 c4, .int .i64 0] 76) := ⟨_, rfl⟩
  have hsz2 : w.heap.size + 2 ≤ w2.heap.size := HI2.out.2.2.2.1
  have HTK3 : Hid (TkB (fun g => w.heap.size + 2 ≤ g) w2.heap.size W3 t (0 : Nat)) := HTK.out W3 w2.heap.size a1 n1 c1 a2 n2 c2 a3 n3 c3 a4 n4 c4 (Blk.newE hW3) (by rw [hW3]; exact HR2.out.to (SameOn.alloc _) (fun g hg h => ⟨by omega, by omega⟩))
  have KB3 : Hid (Blk W3 (w.heap.size + 1) #[.int .i64 0, .int .i64 0, .slice none 0 0, .slice none 0 0, .int .i64 0, .slice none 0 0, .slice none 0 0] 34) := by rw [hW3]; exact HI2.out.2.2.1.below ((Below.refl _ _).alloc (Nat.le_refl _) _) HI2.out.2.2.1.lt
  have BW3 : Hid (Below w.heap.size w W3) := by rw [hW3]; exact HI2.out.1.alloc HI2.out.1.size _
  have hsz3 : w.heap.size + 2 ≤ W3.heap.size := by rw [hW3]; simp; omega
  clear HTK HR2 HI2
  go_wp2_with fail
  rw [← hW3]
  clear hW3
  refine (HHOW.out (by first | rfl | trivial) W3 w2.heap.size BW3.out hsz3 HTK3.out).mono ?_
  rintro e w4 ⟨rfl, HT4, HK4⟩
  have KB : Hid (Blk w4 (w.heap.size + 1) #[.int .i64 0, .int .i64 0, .slice none 0 0, .slice none 0 0, .int .i64 0, .slice none 0 0, .slice none 0 0] 34) := KB3.out.kept HK4.out (by simp; omega)
  have BW : Hid (Below w.heap.size w w4) := BW3.out.trans (HK4.out.toBelow BW3.out.size (fun k hk => by simp at hk; omega))
  clear HHOW HTK3 KB3 BW3 HK4
  by_cases h1 : RE = 0
  case neg =>
    obtain ⟨q1, q2⟩ := hbad.out h1 (by first | rfl | trivial)
    have HAe : Hid (A = (Tr.zero, 0, RE)) := by show A = _; rw [HA2.out, q1, q2]
    clear q1 q2 HA2 hbad HT4
    obtain ⟨z0, z1, z2, z3, z4, z5, z6⟩ := KB.out.sevenc
    have g0 := KB.out.free 0
    have g1 := KB.out.free 1
    have g2 := KB.out.free 2
    have g3 := KB.out.free 3
    have g4 := KB.out.free 4
    have g5 := KB.out.free 5
    have g6 := KB.out.free 6
    go_wp2_with fail
    clear z0 z1 z2 z3 z4 z5 z6 g0 g1 g2 g3 g4 g5 g6
    have KZ := zero_out KB.out
    have BZ := seven_below BW.out (Nat.le_succ w.heap.size) (.int .i64 0) (.int .i64 0) (.slice none 0 0) (.slice none 0 0) (.int .i64 0) (.slice none 0 0) (.slice none 0 0)
    clear KB BW
    obtain ⟨Z, hZ⟩ : ∃ Z, Z = (((((((w4.setCell ⟨w.heap.size + 1, 0, none⟩ (.int .i64 0)).setCell ⟨w.heap.size + 1, 1, none⟩ (.int .i64 0)).setCell ⟨w.heap.size + 1, 2, none⟩ (.slice none 0 0)).setCell ⟨w.heap.size + 1, 3, none⟩ (.slice none 0 0)).setCell ⟨w.heap.size + 1, 4, none⟩ (.int .i64 0)).setCell ⟨w.heap.size + 1, 5, none⟩ (.slice none 0 0)).setCell ⟨w.heap.size + 1, 6, none⟩ (.slice none 0 0)) := ⟨_, rfl⟩
    rw [← hZ] at KZ BZ ⊢
    clear hZ
    obtain ⟨q0, q1, q2, q3, q4, q5, q6⟩ := KZ.sevenc
    exact bodyPost_ret (v := .tuple #[.agg #[.int .i64 0, .int .i64 0, .slice none 0 0, .slice none 0 0, .int .i64 0, .slice none 0 0, .slice none 0 0], .int .i64 0, .int .i64 RE]) (by simp [results, Try.results17, go_sem, q0, q1, q2, q3, q4, q5, q6]) rfl ⟨_, _, _, _, by rw [HAe.out]; rfl, by rw [HAe.out]; exact TrIn.zero _ _, BZ⟩
  clear hbad
  obtain ⟨v1, v2, v3, v4, K8, TR⟩ := HT4.out h1
  subst h1
  clear HT4
  obtain ⟨b1, d1, b2, d2, b3, d3, b4, d4, e1, e2, e3, e4⟩ := TR.slices
  obtain ⟨m1, hm1⟩ : ∃ n, n = RT.h.length := ⟨_, rfl⟩
  obtain ⟨m2, hm2⟩ : ∃ n, n = RT.o.length := ⟨_, rfl⟩
  obtain ⟨m3, hm3⟩ : ∃ n, n = RT.L.length := ⟨_, rfl⟩
  obtain ⟨m4, hm4⟩ : ∃ n, n = RT.O.length := ⟨_, rfl⟩
  rw [← hm1] at e1
  rw [← hm2] at e2
  rw [← hm3] at e3
  rw [← hm4] at e4
  subst e1 e2 e3 e4
  obtain ⟨la2, hl2⟩ : ∃ x, x = RT.last := ⟨_, rfl⟩
  obtain ⟨ne2, hn2⟩ : ∃ x, x = RT.next := ⟨_, rfl⟩
  obtain ⟨fi2, hf2⟩ : ∃ x, x = RT.first := ⟨_, rfl⟩
  obtain ⟨rc, hrc⟩ : ∃ x, x = (RC : Int) := ⟨_, rfl⟩
  rw [← hl2, ← hn2, ← hf2, ← hrc] at K8
  obtain ⟨V, hV⟩ : ∃ V, V = { w4 with drawn := w4.drawn + 1 } := ⟨_, rfl⟩
  obtain ⟨Z, hZ⟩ : ∃ Z, Z = (((((((V.setCell ⟨w.heap.size + 1, 0, none⟩ (.int .i64 la2)).setCell ⟨w.heap.size + 1, 1, none⟩ (.int .i64 ne2)).setCell ⟨w.heap.size + 1, 2, none⟩ (.slice b1 m1 d1)).setCell ⟨w.heap.size + 1, 3, none⟩ (.slice b2 m2 d2)).setCell ⟨w.heap.size + 1, 4, none⟩ (.int .i64 fi2)).setCell ⟨w.heap.size + 1, 5, none⟩ (.slice b3 m3 d3)).setCell ⟨w.heap.size + 1, 6, none⟩ (.slice b4 m4 d4)) := ⟨_, rfl⟩
  have hne : w2.heap.size ≠ w.heap.size + 1 := by omega
  have KMV : Hid (Blk V w2.heap.size #[.int .i64 la2, .int .i64 ne2, .slice b1 m1 d1, .slice b2 m2 d2, .int .i64 fi2, .slice b3 m3 d3, .slice b4 m4 d4, .int .i64 rc] 76) := by rw [hV]; exact K8.drew
  have KBV : Hid (Blk V (w.heap.size + 1) #[.int .i64 0, .int .i64 0, .slice none 0 0, .slice none 0 0, .int .i64 0, .slice none 0 0, .slice none 0 0] 34) := by rw [hV]; exact KB.out.drew
  have hsame : SameOn (fun g => g ≠ w.heap.size + 1) V Z := by rw [hZ]; exact seven_same (by simp) _ _ _ _ _ _ _
  have KMZ : Hid (Blk Z w2.heap.size #[.int .i64 la2, .int .i64 ne2, .slice b1 m1 d1, .slice b2 m2 d2, .int .i64 fi2, .slice b3 m3 d3, .slice b4 m4 d4, .int .i64 rc] 76) := (hsame.2 _ KMV.out.lt hne).trans KMV.out
  have KBZ : Hid (Blk Z (w.heap.size + 1) #[.int .i64 la2, .int .i64 ne2, .slice b1 m1 d1, .slice b2 m2 d2, .int .i64 fi2, .slice b3 m3 d3, .slice b4 m4 d4] 34) := by rw [hZ]; exact seven_out KBV.out _ _ _ _ _ _ _
  have HBZ : Hid (Below w.heap.size w Z) := by rw [hZ]; exact seven_below (by rw [hV]; exact BW.out.drew) (Nat.le_succ _) _ _ _ _ _ _ _
  have HEQ : Hid (Ending.returned (Value.tuple #[.agg #[.int .i64 la2, .int .i64 ne2, .slice b1 m1 d1, .slice b2 m2 d2, .int .i64 fi2, .slice b3 m3 d3, .slice b4 m4 d4], .int .i64 rc, .int .i64 0]) = Ending.returned (Value.tuple #[.agg #[.int .i64 A.1.last, .int .i64 A.1.next, .slice b1 m1 d1, .slice b2 m2 d2, .int .i64 A.1.first, .slice b3 m3 d3, .slice b4 m4 d4], .int .i64 A.2.1, .int .i64 A.2.2])) := by rw [hl2, hn2, hf2, hrc]; show _ = _; rw [HA2.out]
  have HTR : Hid (TrIn (fun g => w.heap.size ≤ g) Z (.slice b1 m1 d1) (.slice b2 m2 d2) (.slice b3 m3 d3) (.slice b4 m4 d4) A.1) := by
    show TrIn _ _ _ _ _ _ _
    rw [HA2.out]
    have q : TrIn (fun g => w.heap.size + 2 ≤ g ∧ g ≠ w2.heap.size) V (.slice b1 m1 d1) (.slice b2 m2 d2) (.slice b3 m3 d3) (.slice b4 m4 d4) RT := by rw [hV]; exact TR.to ⟨Nat.le_refl _, fun g _ _ => rfl⟩ (fun g _ h => h)
    exact q.to (hsame.mono fun g hg => by have := hg.1; omega) (fun g _ hg => by have := hg.1; omega)
  clear HA2 hl2 hn2 hf2 hrc hm1 hm2 hm3 hm4 K8 TR hsame
  go_wp2_with fail
  refine region_chainG (by kernel_rfl) (by kernel_rfl) [.quiet (.pointer (some ⟨w2.heap.size, 0, none⟩)) 3, .quiet (.agg #[.int .i64 la2, .int .i64 ne2, .slice b1 m1 d1, .slice b2 m2 d2, .int .i64 fi2, .slice b3 m3 d3, .slice b4 m4 d4]) 3, .quiet (.pointer (some ⟨w2.heap.size, 7, none⟩)) 3, .quiet (.int .i64 rc) 3, .step 0, .step 1, .step 2] [4, 5, 6] (by kernel_rfl)
    (fun s r w' => match s with
      | 0 => w' = V
      | 1 => w' = Z
      | 2 => w' = Z ∧ r 1 = .int .i64 rc
      | _ => w' = Z ∧ r 1 = .int .i64 rc ∧ r 2 = .int .i64 0
      ) hV.symm ?step ?fin
  case step =>
    intro i o ho a' w' s r hI hfree hvals
    have kx : Blk w' w2.heap.size #[.int .i64 la2, .int .i64 ne2, .slice b1 m1 d1, .slice b2 m2 d2, .int .i64 fi2, .slice b3 m3 d3, .slice b4 m4 d4, .int .i64 rc] 76 := by
      match s, hI with
      | 0, hI => rw [show w' = V from hI]; exact KMV.out
      | 1, hI => rw [show w' = Z from hI]; exact KMZ.out
      | 2, hI => rw [hI.1]; exact KMZ.out
      | n + 3, hI => rw [hI.1]; exact KMZ.out
    obtain ⟨a0, a1, a2, a3, a4, a5, a6, a7⟩ := kx.eight
    match i, ho with
    | 0, ho =>
      simp at ho; subst ho
      have e8 : a'.eval (.tmp 8) = .pointer (some ⟨w2.heap.size, 0, none⟩) := (hfree 8 (by kernel_rfl)).trans rfl
      show s ≤ 3 → _
      intro hs
      refine .inl ⟨rfl, ?_⟩
      generalize a'.eval = ρ at *
      simp [execOp, go_sem, e8]
    | 1, ho =>
      simp at ho; subst ho
      have e25 : a'.eval (.tmp 25) = .pointer (some ⟨w2.heap.size, 0, none⟩) := hvals 0 _ _ (by kernel_rfl) rfl rfl
      show s ≤ 3 → _
      intro hs
      refine .inl ⟨rfl, ?_⟩
      generalize a'.eval = ρ at *
      simp [execOp, go_sem, e25, a0, a1, a2, a3, a4, a5, a6]
    | 2, ho =>
      simp at ho; subst ho
      have e8 : a'.eval (.tmp 8) = .pointer (some ⟨w2.heap.size, 0, none⟩) := (hfree 8 (by kernel_rfl)).trans rfl
      show s ≤ 3 → _
      intro hs
      refine .inl ⟨rfl, ?_⟩
      generalize a'.eval = ρ at *
      simp [execOp, go_sem, e8]
    | 3, ho =>
      simp at ho; subst ho
      have e27 : a'.eval (.tmp 27) = .pointer (some ⟨w2.heap.size, 7, none⟩) := hvals 2 _ _ (by kernel_rfl) rfl rfl
      show s ≤ 3 → _
      intro hs
      refine .inl ⟨rfl, ?_⟩
      generalize a'.eval = ρ at *
      simp [execOp, go_sem, e27, a7]
    | 4, ho =>
      simp at ho; subst ho
      have e4 : a'.eval (.tmp 4) = .pointer (some ⟨w.heap.size + 1, 0, none⟩) := (hfree 4 (by kernel_rfl)).trans rfl
      have e26 : a'.eval (.tmp 26) = .agg #[.int .i64 la2, .int .i64 ne2, .slice b1 m1 d1, .slice b2 m2 d2, .int .i64 fi2, .slice b3 m3 d3, .slice b4 m4 d4] := hvals 1 _ _ (by kernel_rfl) rfl rfl
      show s = 0 → _ ∧ Oper.wp _ _ _ _ _ _
      intro hs
      subst hs
      refine ⟨rfl, ?_⟩
      have hw : w' = V := hI
      obtain ⟨t0, t1, t2, t3, t4, t5, t6⟩ := KBV.out.sevenc
      have fr := KBV.out.free
      refine oper_wp_skip (w' := Z) ?_ ⟨_, rfl, rfl⟩
      generalize a'.eval = ρ at *
      rw [hw, hZ]
      simp [execOp, go_sem, e4, e26, t0, t1, t2, t3, t4, t5, t6, fr]
    | 5, ho =>
      simp at ho; subst ho
      have e28 : a'.eval (.tmp 28) = .int .i64 rc := hvals 3 _ _ (by kernel_rfl) rfl rfl
      show s = 1 → _ ∧ Oper.wp _ _ _ _ _ _
      intro hs
      subst hs
      refine ⟨rfl, ?_⟩
      refine oper_wp_ok (v := .int .i64 rc) (w' := w') ?_ ⟨_, rfl, hI, updR_at _ _ _⟩
      generalize a'.eval = ρ at *
      simp [execOp, go_sem, e28]
    | 6, ho =>
      simp at ho; subst ho
      have ec0 : a'.eval (.const (.int .i64 0)) = .int .i64 0 := rfl
      show s = 2 → _ ∧ Oper.wp _ _ _ _ _ _
      intro hs
      subst hs
      refine ⟨rfl, ?_⟩
      obtain ⟨c0, c1⟩ := hI
      refine oper_wp_ok (v := .int .i64 0) (w' := w') ?_ ⟨_, rfl, c0, by rw [updR_ne (by omega)]; exact c1, updR_at _ _ _⟩
      generalize a'.eval = ρ at *
      simp [execOp, go_sem, ec0]
  case fin =>
    rintro r V2 ⟨d0, d1, d2⟩
    simp only [putC, Ck.out, d1, d2, Act.put, List.setIfInBounds_toArray, List.set_cons_succ, List.set_cons_zero]
    rw [d0]
    obtain ⟨u0, u1, u2, u3, u4, u5, u6⟩ := KBZ.out.sevenc
    clear d0 d1 d2 r V2 KMV KMZ KBV KBZ hV hZ V
    go_wp2_with fail
    exact bodyPost_ret (v := .tuple #[.agg #[.int .i64 la2, .int .i64 ne2, .slice b1 m1 d1, .slice b2 m2 d2, .int .i64 fi2, .slice b3 m3 d3, .slice b4 m4 d4], .int .i64 rc, .int .i64 0]) (by simp [results, Try.results17, go_sem, u0, u1, u2, u3, u4, u5, u6]) rfl ⟨_, _, _, _, HEQ.out, HTR.out, HBZ.out⟩

end Go.Proofs.Ytnpaejknoipicag

namespace Go.Proofs.Ytnpaejknoipicag
open Go.RowKit

set_option maxHeartbeats 16000000 in
set_option maxRecDepth 100000 in
theorem trkChangeD_any (t : Tr) (hv bv gv ov : Value) (w : World) (hr : TrIn (fun g => g < w.heap.size) w hv bv gv ov t) :
    Calls Try.prog 17 #[.agg #[.int .i64 t.last, .int .i64 t.next, hv, bv, .int .i64 t.first, gv, ov], .func (.func 24) #[] #[]] w fun e w' => ∃ hv' bv' gv' ov', e = .returned (.tuple #[.agg #[.int .i64 (drainA t).1.last, .int .i64 (drainA t).1.next, hv', bv', .int .i64 (drainA t).1.first, gv', ov'], .int .i64 (drainA t).2.1, .int .i64 (drainA t).2.2]) ∧ TrIn (fun g => w.heap.size ≤ g) w' hv' bv' gv' ov' (drainA t).1 ∧ Below w.heap.size w w' := by
  obtain ⟨ha, hc, ba', bc, ga, gc, oa, oc, eh, eb, eg, eo⟩ := hr.slices
  obtain ⟨RT, RC, RE, hRR⟩ : ∃ RT RC RE, (RT, RC, RE) = drainR t := ⟨_, _, _, rfl⟩
  obtain ⟨A, hA⟩ : ∃ A, A = drainA t := ⟨_, rfl⟩
  obtain ⟨CK, hCK⟩ : ∃ c, c = t.chk := ⟨_, rfl⟩
  have HA : Hid (A = if CK = 0 then (RT, RC, RE) else (Tr.zero, 0, CK)) := by show A = _; rw [hA, hCK, hRR]; rfl
  have HHOW : Hid (CK = 0 → ∀ W M, Below w.heap.size w W → w.heap.size + 2 ≤ W.heap.size → TkB (fun g => w.heap.size + 2 ≤ g) M W t (0 : Nat) → Calls Try.prog 24 #[.pointer (some ⟨M, 0, none⟩)] W fun e w' => e = .returned (.int .i64 RE) ∧ Hid (RE = 0 → TkB (fun g => w.heap.size + 2 ≤ g) M w' RT (RC : Nat)) ∧ Hid (Kept [M] W w')) := fun h W M hW hM hT => by
    refine (drainFn_any _ M t W hT (hCK ▸ h) (fun g hg => Nat.le_trans hM hg)).mono ?_
    rintro e w' ⟨rfl, a1, a2⟩
    rw [← hRR] at a1 ⊢
    exact ⟨rfl, a1, a2⟩
  have hbad : Hid (¬ RE = 0 → CK = 0 → RT = Tr.zero ∧ RC = 0) := fun h1 h2 => by
    have q := drainA_bad (t := t)
    rw [← hA, HA.out, if_pos h2] at q
    exact q h1
  rw [← hA]
  clear hA
  have HCHK : Hid (∀ U C, ClT w U C hv bv gv ov t → Calls Try.prog 5 #[.agg #[.int .i64 t.last, .int .i64 t.next, hv, bv, .int .i64 t.first, gv, ov]] U fun e w' => e = .returned (.int .i64 CK) ∧ Below U.heap.size U w') := fun U C hU => by
    rw [hCK]; exact trkCheck_any _ t hv bv gv ov U hU.2.2.2.2
  have HCL : Hid (CK = 0 → ∀ U C, ClT w U C hv bv gv ov t → Calls Try.prog 33 #[.agg #[.int .i64 t.last, .int .i64 t.next, hv, bv, .int .i64 t.first, gv, ov]] U fun e w' => ∃ a1 n1 c1 a2 n2 c2 a3 n3 c3 a4 n4 c4, e = .returned (.agg #[.int .i64 t.last, .int .i64 t.next, .slice a1 n1 c1, .slice a2 n2 c2, .int .i64 t.first, .slice a3 n3 c3, .slice a4 n4 c4]) ∧ Hid (TrIn (fun g => w.heap.size + 2 ≤ g) w' (.slice a1 n1 c1) (.slice a2 n2 c2) (.slice a3 n3 c3) (.slice a4 n4 c4) t) ∧ Below U.heap.size U w') := fun h U C hU => by
    refine (cloneTrack_any _ t hv bv gv ov U hU.2.2.2.2 (hCK ▸ h)).mono ?_
    rintro e w' ⟨x1, x2, x3, x4, rfl, q, b⟩
    obtain ⟨a1, c1, a2, c2, a3, c3, a4, c4, e1, e2, e3, e4⟩ := q.slices
    subst e1 e2 e3 e4
    exact ⟨_, _, _, _, _, _, _, _, _, _, _, _, rfl, q.mono fun g _ hg => Nat.le_trans hU.2.2.2.1 hg, b⟩
  obtain ⟨nh, hnh⟩ : ∃ n, n = t.h.length := ⟨_, rfl⟩
  obtain ⟨no, hno⟩ : ∃ n, n = t.o.length := ⟨_, rfl⟩
  obtain ⟨ng, hng⟩ : ∃ n, n = t.L.length := ⟨_, rfl⟩
  obtain ⟨nO, hnO⟩ : ∃ n, n = t.O.length := ⟨_, rfl⟩
  rw [← hnh] at eh
  rw [← hno] at eb
  rw [← hng] at eg
  rw [← hnO] at eo
  obtain ⟨last, hla⟩ : ∃ x, x = t.last := ⟨_, rfl⟩
  obtain ⟨next, hne⟩ : ∃ x, x = t.next := ⟨_, rfl⟩
  obtain ⟨first, hfi⟩ : ∃ x, x = t.first := ⟨_, rfl⟩
  have HTK : Hid (∀ W M a1 n1 c1 a2 n2 c2 a3 n3 c3 a4 n4 c4, Blk W M #[.int .i64 last, .int .i64 next, .slice a1 n1 c1, .slice a2 n2 c2, .int .i64 first, .slice a3 n3 c3, .slice a4 n4 c4, .int .i64 0] 76 → TrIn (fun g => w.heap.size + 2 ≤ g ∧ g ≠ M) W (.slice a1 n1 c1) (.slice a2 n2 c2) (.slice a3 n3 c3) (.slice a4 n4 c4) t → TkB (fun g => w.heap.size + 2 ≤ g) M W t (0 : Nat)) := fun W M a1 n1 c1 a2 n2 c2 a3 n3 c3 a4 n4 c4 h1 h3 => by
    rw [hla, hne, hfi] at h1
    exact ⟨_, _, _, _, h1, h3⟩
  rw [← hla, ← hne, ← hfi] at HCHK HCL ⊢
  have HI : Hid (ClT w ((w.alloc (.cells #[.int .i64 last, .int .i64 next, hv, bv, .int .i64 first, gv, ov] 34)).alloc (.cells #[.int .i64 0, .int .i64 0, .slice none 0 0, .slice none 0 0, .int .i64 0, .slice none 0 0, .slice none 0 0] 34)) #[.int .i64 last, .int .i64 next, hv, bv, .int .i64 first, gv, ov] hv bv gv ov t) := by
    have b1 : Below w.heap.size w (w.alloc (.cells #[.int .i64 last, .int .i64 next, hv, bv, .int .i64 first, gv, ov] 34)) := (Below.refl _ _).alloc (Nat.le_refl _) _
    have k1 := Blk.new w #[.int .i64 last, .int .i64 next, hv, bv, .int .i64 first, gv, ov] 34
    have k2 := Blk.new (w.alloc (.cells #[.int .i64 last, .int .i64 next, hv, bv, .int .i64 first, gv, ov] 34)) #[.int .i64 0, .int .i64 0, .slice none 0 0, .slice none 0 0, .int .i64 0, .slice none 0 0, .slice none 0 0] 34
    have b2 : Below w.heap.size w ((w.alloc (.cells #[.int .i64 last, .int .i64 next, hv, bv, .int .i64 first, gv, ov] 34)).alloc (.cells #[.int .i64 0, .int .i64 0, .slice none 0 0, .slice none 0 0, .int .i64 0, .slice none 0 0, .slice none 0 0] 34)) := b1.alloc (by simp) _
    exact ⟨b2, k1.below ((Below.refl _ _).alloc (Nat.le_refl _) _) k1.lt, by simpa using k2, by simp, hr.below b2⟩
  clear hla hne hfi hr hnh hno hng hnO hRR hCK
  subst eh eb eg eo
  go_enter Try.func17, Try.ntmps17
  obtain ⟨W, hW⟩ : ∃ W, W = (w.alloc (.cells #[.int .i64 last, .int .i64 next, .slice ha nh hc, .slice ba' no bc, .int .i64 first, .slice ga ng gc, .slice oa nO oc] 34)).alloc (.cells #[.int .i64 0, .int .i64 0, .slice none 0 0, .slice none 0 0, .int .i64 0, .slice none 0 0, .slice none 0 0] 34) := ⟨_, rfl⟩
  rw [← hW] at HI
  go_wp2_with fail
  rw [← hW]
  clear hW
  refine (HCHK.out W _ HI.out).mono ?_
  rintro e w1 ⟨rfl, b1⟩
  have HI1 : Hid (ClT w w1 #[.int .i64 last, .int .i64 next, .slice ha nh hc, .slice ba' no bc, .int .i64 first, .slice ga ng gc, .slice oa nO oc] (.slice ha nh hc) (.slice ba' no bc) (.slice ga ng gc) (.slice oa nO oc) t) := HI.out.go b1
  clear b1 HI HCHK W
  obtain ⟨y0, y1, y2, y3, y4, y5, y6⟩ := HI1.out.2.1.sevenc
  by_cases h1 : CK = 0
  case neg =>
    have KB : Hid (Blk w1 (w.heap.size + 1) #[.int .i64 0, .int .i64 0, .slice none 0 0, .slice none 0 0, .int .i64 0, .slice none 0 0, .slice none 0 0] 34) := HI1.out.2.2.1
    have BW : Hid (Below w.heap.size w w1) := HI1.out.1
    have HAe : Hid (A = (Tr.zero, 0, CK)) := by show A = _; rw [HA.out, if_neg h1]
    obtain ⟨z0, z1, z2, z3, z4, z5, z6⟩ := KB.out.sevenc
    have g0 := KB.out.free 0
    have g1 := KB.out.free 1
    have g2 := KB.out.free 2
    have g3 := KB.out.free 3
    have g4 := KB.out.free 4
    have g5 := KB.out.free 5
    have g6 := KB.out.free 6
    clear HHOW hbad HCL HTK HA HI1 y0 y1 y2 y3 y4 y5 y6
    go_wp2_with fail
    clear z0 z1 z2 z3 z4 z5 z6 g0 g1 g2 g3 g4 g5 g6
    have KZ := zero_out KB.out
    have BZ := seven_below BW.out (Nat.le_succ w.heap.size) (.int .i64 0) (.int .i64 0) (.slice none 0 0) (.slice none 0 0) (.int .i64 0) (.slice none 0 0) (.slice none 0 0)
    clear KB BW
    obtain ⟨Z, hZ⟩ : ∃ Z, Z = (((((((w1.setCell ⟨w.heap.size + 1, 0, none⟩ (.int .i64 0)).setCell ⟨w.heap.size + 1, 1, none⟩ (.int .i64 0)).setCell ⟨w.heap.size + 1, 2, none⟩ (.slice none 0 0)).setCell ⟨w.heap.size + 1, 3, none⟩ (.slice none 0 0)).setCell ⟨w.heap.size + 1, 4, none⟩ (.int .i64 0)).setCell ⟨w.heap.size + 1, 5, none⟩ (.slice none 0 0)).setCell ⟨w.heap.size + 1, 6, none⟩ (.slice none 0 0)) := ⟨_, rfl⟩
    rw [← hZ] at KZ BZ ⊢
    clear hZ
    obtain ⟨q0, q1, q2, q3, q4, q5, q6⟩ := KZ.sevenc
    exact bodyPost_ret (v := .tuple #[.agg #[.int .i64 0, .int .i64 0, .slice none 0 0, .slice none 0 0, .int .i64 0, .slice none 0 0, .slice none 0 0], .int .i64 0, .int .i64 CK]) (by simp [results, Try.results17, go_sem, q0, q1, q2, q3, q4, q5, q6]) rfl ⟨_, _, _, _, by rw [HAe.out]; rfl, by rw [HAe.out]; exact TrIn.zero _ _, BZ⟩
  subst h1
  have HA2 : Hid (A = (RT, RC, RE)) := by show A = _; rw [HA.out, if_pos rfl]
  clear HA
  go_wp2_with fail
  refine (HCL.out (by first | rfl | trivial) w1 _ HI1.out).mono ?_
  rintro e w2 ⟨a1, n1, c1, a2, n2, c2, a3, n3, c3, a4, n4, c4, rfl, HR2, b1⟩
  have HI2 : Hid (ClT w w2 #[.int .i64 last, .int .i64 next, .slice ha nh hc, .slice ba' no bc, .int .i64 first, .slice ga ng gc, .slice oa nO oc] (.slice ha nh hc) (.slice ba' no bc) (.slice ga ng gc) (.slice oa nO oc) t) := HI1.out.go b1
  clear b1 HI1 HCL y0 y1 y2 y3 y4 y5 y6
  obtain ⟨W3, hW3⟩ : ∃ W, W = w2.alloc (.cells #[.int .i64 last, .int .i64 next, .slice a1 n1 c1, .slice a2 n2 c2, .int .i64 first, .slice a3 n3 c3, .slice a4 n4 c4, .int .i64 0] 76) := ⟨_, rfl⟩
  have hsz2 : w.heap.size + 2 ≤ w2.heap.size := HI2.out.2.2.2.1
  have HTK3 : Hid (TkB (fun g => w.heap.size + 2 ≤ g) w2.heap.size W3 t (0 : Nat)) := HTK.out W3 w2.heap.size a1 n1 c1 a2 n2 c2 a3 n3 c3 a4 n4 c4 (Blk.newE hW3) (by rw [hW3]; exact HR2.out.to (SameOn.alloc _) (fun g hg h => ⟨by omega, by omega⟩))
  have KB3 : Hid (Blk W3 (w.heap.size + 1) #[.int .i64 0, .int .i64 0, .slice none 0 0, .slice none 0 0, .int .i64 0, .slice none 0 0, .slice none 0 0] 34) := by rw [hW3]; exact HI2.out.2.2.1.below ((Below.refl _ _).alloc (Nat.le_refl _) _) HI2.out.2.2.1.lt
  have BW3 : Hid (Below w.heap.size w W3) := by rw [hW3]; exact HI2.out.1.alloc HI2.out.1.size _
  have hsz3 : w.heap.size + 2 ≤ W3.heap.size := by rw [hW3]; simp; omega
  clear HTK HR2 HI2
  go_wp2_with fail
  rw [← hW3]
  clear hW3
  refine (HHOW.out (by first | rfl | trivial) W3 w2.heap.size BW3.out hsz3 HTK3.out).mono ?_
  rintro e w4 ⟨rfl, HT4, HK4⟩
  have KB : Hid (Blk w4 (w.heap.size + 1) #[.int .i64 0, .int .i64 0, .slice none 0 0, .slice none 0 0, .int .i64 0, .slice none 0 0, .slice none 0 0] 34) := KB3.out.kept HK4.out (by simp; omega)
  have BW : Hid (Below w.heap.size w w4) := BW3.out.trans (HK4.out.toBelow BW3.out.size (fun k hk => by simp at hk; omega))
  clear HHOW HTK3 KB3 BW3 HK4
  by_cases h1 : RE = 0
  case neg =>
    obtain ⟨q1, q2⟩ := hbad.out h1 (by first | rfl | trivial)
    have HAe : Hid (A = (Tr.zero, 0, RE)) := by show A = _; rw [HA2.out, q1, q2]
    clear q1 q2 HA2 hbad HT4
    obtain ⟨z0, z1, z2, z3, z4, z5, z6⟩ := KB.out.sevenc
    have g0 := KB.out.free 0
    have g1 := KB.out.free 1
    have g2 := KB.out.free 2
    have g3 := KB.out.free 3
    have g4 := KB.out.free 4
    have g5 := KB.out.free 5
    have g6 := KB.out.free 6
    go_wp2_with fail
    clear z0 z1 z2 z3 z4 z5 z6 g0 g1 g2 g3 g4 g5 g6
    have KZ := zero_out KB.out
    have BZ := seven_below BW.out (Nat.le_succ w.heap.size) (.int .i64 0) (.int .i64 0) (.slice none 0 0) (.slice none 0 0) (.int .i64 0) (.slice none 0 0) (.slice none 0 0)
    clear KB BW
    obtain ⟨Z, hZ⟩ : ∃ Z, Z = (((((((w4.setCell ⟨w.heap.size + 1, 0, none⟩ (.int .i64 0)).setCell ⟨w.heap.size + 1, 1, none⟩ (.int .i64 0)).setCell ⟨w.heap.size + 1, 2, none⟩ (.slice none 0 0)).setCell ⟨w.heap.size + 1, 3, none⟩ (.slice none 0 0)).setCell ⟨w.heap.size + 1, 4, none⟩ (.int .i64 0)).setCell ⟨w.heap.size + 1, 5, none⟩ (.slice none 0 0)).setCell ⟨w.heap.size + 1, 6, none⟩ (.slice none 0 0)) := ⟨_, rfl⟩
    rw [← hZ] at KZ BZ ⊢
    clear hZ
    obtain ⟨q0, q1, q2, q3, q4, q5, q6⟩ := KZ.sevenc
    exact bodyPost_ret (v := .tuple #[.agg #[.int .i64 0, .int .i64 0, .slice none 0 0, .slice none 0 0, .int .i64 0, .slice none 0 0, .slice none 0 0], .int .i64 0, .int .i64 RE]) (by simp [results, Try.results17, go_sem, q0, q1, q2, q3, q4, q5, q6]) rfl ⟨_, _, _, _, by rw [HAe.out]; rfl, by rw [HAe.out]; exact TrIn.zero _ _, BZ⟩
  clear hbad
  obtain ⟨v1, v2, v3, v4, K8, TR⟩ := HT4.out h1
  subst h1
  clear HT4
  obtain ⟨b1, d1, b2, d2, b3, d3, b4, d4, e1, e2, e3, e4⟩ := TR.slices
  obtain ⟨m1, hm1⟩ : ∃ n, n = RT.h.length := ⟨_, rfl⟩
  obtain ⟨m2, hm2⟩ : ∃ n, n = RT.o.length := ⟨_, rfl⟩
  obtain ⟨m3, hm3⟩ : ∃ n, n = RT.L.length := ⟨_, rfl⟩
  obtain ⟨m4, hm4⟩ : ∃ n, n = RT.O.length := ⟨_, rfl⟩
  rw [← hm1] at e1
  rw [← hm2] at e2
  rw [← hm3] at e3
  rw [← hm4] at e4
  subst e1 e2 e3 e4
  obtain ⟨la2, hl2⟩ : ∃ x, x = RT.last := ⟨_, rfl⟩
  obtain ⟨ne2, hn2⟩ : ∃ x, x = RT.next := ⟨_, rfl⟩
  obtain ⟨fi2, hf2⟩ : ∃ x, x = RT.first := ⟨_, rfl⟩
  obtain ⟨rc, hrc⟩ : ∃ x, x = (RC : Int) := ⟨_, rfl⟩
  rw [← hl2, ← hn2, ← hf2, ← hrc] at K8
  obtain ⟨V, hV⟩ : ∃ V, V = { w4 with drawn := w4.drawn + 1 } := ⟨_, rfl⟩
  obtain ⟨Z, hZ⟩ : ∃ Z, Z = (((((((V.setCell ⟨w.heap.size + 1, 0, none⟩ (.int .i64 la2)).setCell ⟨w.heap.size + 1, 1, none⟩ (.int .i64 ne2)).setCell ⟨w.heap.size + 1, 2, none⟩ (.slice b1 m1 d1)).setCell ⟨w.heap.size + 1, 3, none⟩ (.slice b2 m2 d2)).setCell ⟨w.heap.size + 1, 4, none⟩ (.int .i64 fi2)).setCell ⟨w.heap.size + 1, 5, none⟩ (.slice b3 m3 d3)).setCell ⟨w.heap.size + 1, 6, none⟩ (.slice b4 m4 d4)) := ⟨_, rfl⟩
  have hne : w2.heap.size ≠ w.heap.size + 1 := by omega
  have KMV : Hid (Blk V w2.heap.size #[.int .i64 la2, .int .i64 ne2, .slice b1 m1 d1, .slice b2 m2 d2, .int .i64 fi2, .slice b3 m3 d3, .slice b4 m4 d4, .int .i64 rc] 76) := by rw [hV]; exact K8.drew
  have KBV : Hid (Blk V (w.heap.size + 1) #[.int .i64 0, .int .i64 0, .slice none 0 0, .slice none 0 0, .int .i64 0, .slice none 0 0, .slice none 0 0] 34) := by rw [hV]; exact KB.out.drew
  have hsame : SameOn (fun g => g ≠ w.heap.size + 1) V Z := by rw [hZ]; exact seven_same (by simp) _ _ _ _ _ _ _
  have KMZ : Hid (Blk Z w2.heap.size #[.int .i64 la2, .int .i64 ne2, .slice b1 m1 d1, .slice b2 m2 d2, .int .i64 fi2, .slice b3 m3 d3, .slice b4 m4 d4, .int .i64 rc] 76) := (hsame.2 _ KMV.out.lt hne).trans KMV.out
  have KBZ : Hid (Blk Z (w.heap.size + 1) #[.int .i64 la2, .int .i64 ne2, .slice b1 m1 d1, .slice b2 m2 d2, .int .i64 fi2, .slice b3 m3 d3, .slice b4 m4 d4] 34) := by rw [hZ]; exact seven_out KBV.out _ _ _ _ _ _ _
  have HBZ : Hid (Below w.heap.size w Z) := by rw [hZ]; exact seven_below (by rw [hV]; exact BW.out.drew) (Nat.le_succ _) _ _ _ _ _ _ _
  have HEQ : Hid (Ending.returned (Value.tuple #[.agg #[.int .i64 la2, .int .i64 ne2, .slice b1 m1 d1, .slice b2 m2 d2, .int .i64 fi2, .slice b3 m3 d3, .slice b4 m4 d4], .int .i64 rc, .int .i64 0]) = Ending.returned (Value.tuple #[.agg #[.int .i64 A.1.last, .int .i64 A.1.next, .slice b1 m1 d1, .slice b2 m2 d2, .int .i64 A.1.first, .slice b3 m3 d3, .slice b4 m4 d4], .int .i64 A.2.1, .int .i64 A.2.2])) := by rw [hl2, hn2, hf2, hrc]; show _ = _; rw [HA2.out]
  have HTR : Hid (TrIn (fun g => w.heap.size ≤ g) Z (.slice b1 m1 d1) (.slice b2 m2 d2) (.slice b3 m3 d3) (.slice b4 m4 d4) A.1) := by
    show TrIn _ _ _ _ _ _ _
    rw [HA2.out]
    have q : TrIn (fun g => w.heap.size + 2 ≤ g ∧ g ≠ w2.heap.size) V (.slice b1 m1 d1) (.slice b2 m2 d2) (.slice b3 m3 d3) (.slice b4 m4 d4) RT := by rw [hV]; exact TR.to ⟨Nat.le_refl _, fun g _ _ => rfl⟩ (fun g _ h => h)
    exact q.to (hsame.mono fun g hg => by have := hg.1; omega) (fun g _ hg => by have := hg.1; omega)
  clear HA2 hl2 hn2 hf2 hrc hm1 hm2 hm3 hm4 K8 TR hsame
  go_wp2_with fail
  refine region_chainG (by kernel_rfl) (by kernel_rfl) [.quiet (.pointer (some ⟨w2.heap.size, 0, none⟩)) 3, .quiet (.agg #[.int .i64 la2, .int .i64 ne2, .slice b1 m1 d1, .slice b2 m2 d2, .int .i64 fi2, .slice b3 m3 d3, .slice b4 m4 d4]) 3, .quiet (.pointer (some ⟨w2.heap.size, 7, none⟩)) 3, .quiet (.int .i64 rc) 3, .step 0, .step 1, .step 2] [4, 5, 6] (by kernel_rfl)
    (fun s r w' => match s with
      | 0 => w' = V
      | 1 => w' = Z
      | 2 => w' = Z ∧ r 1 = .int .i64 rc
      | _ => w' = Z ∧ r 1 = .int .i64 rc ∧ r 2 = .int .i64 0
      ) hV.symm ?step ?fin
  case step =>
    intro i o ho a' w' s r hI hfree hvals
    have kx : Blk w' w2.heap.size #[.int .i64 la2, .int .i64 ne2, .slice b1 m1 d1, .slice b2 m2 d2, .int .i64 fi2, .slice b3 m3 d3, .slice b4 m4 d4, .int .i64 rc] 76 := by
      match s, hI with
      | 0, hI => rw [show w' = V from hI]; exact KMV.out
      | 1, hI => rw [show w' = Z from hI]; exact KMZ.out
      | 2, hI => rw [hI.1]; exact KMZ.out
      | n + 3, hI => rw [hI.1]; exact KMZ.out
    obtain ⟨a0, a1, a2, a3, a4, a5, a6, a7⟩ := kx.eight
    match i, ho with
    | 0, ho =>
      simp at ho; subst ho
      have e8 : a'.eval (.tmp 8) = .pointer (some ⟨w2.heap.size, 0, none⟩) := (hfree 8 (by kernel_rfl)).trans rfl
      show s ≤ 3 → _
      intro hs
      refine .inl ⟨rfl, ?_⟩
      generalize a'.eval = ρ at *
      simp [execOp, go_sem, e8]
    | 1, ho =>
      simp at ho; subst ho
      have e25 : a'.eval (.tmp 25) = .pointer (some ⟨w2.heap.size, 0, none⟩) := hvals 0 _ _ (by kernel_rfl) rfl rfl
      show s ≤ 3 → _
      intro hs
      refine .inl ⟨rfl, ?_⟩
      generalize a'.eval = ρ at *
      simp [execOp, go_sem, e25, a0, a1, a2, a3, a4, a5, a6]
    | 2, ho =>
      simp at ho; subst ho
      have e8 : a'.eval (.tmp 8) = .pointer (some ⟨w2.heap.size, 0, none⟩) := (hfree 8 (by kernel_rfl)).trans rfl
      show s ≤ 3 → _
      intro hs
      refine .inl ⟨rfl, ?_⟩
      generalize a'.eval = ρ at *
      simp [execOp, go_sem, e8]
    | 3, ho =>
      simp at ho; subst ho
      have e27 : a'.eval (.tmp 27) = .pointer (some ⟨w2.heap.size, 7, none⟩) := hvals 2 _ _ (by kernel_rfl) rfl rfl
      show s ≤ 3 → _
      intro hs
      refine .inl ⟨rfl, ?_⟩
      generalize a'.eval = ρ at *
      simp [execOp, go_sem, e27, a7]
    | 4, ho =>
      simp at ho; subst ho
      have e4 : a'.eval (.tmp 4) = .pointer (some ⟨w.heap.size + 1, 0, none⟩) := (hfree 4 (by kernel_rfl)).trans rfl
      have e26 : a'.eval (.tmp 26) = .agg #[.int .i64 la2, .int .i64 ne2, .slice b1 m1 d1, .slice b2 m2 d2, .int .i64 fi2, .slice b3 m3 d3, .slice b4 m4 d4] := hvals 1 _ _ (by kernel_rfl) rfl rfl
      show s = 0 → _ ∧ Oper.wp _ _ _ _ _ _
      intro hs
      subst hs
      refine ⟨rfl, ?_⟩
      have hw : w' = V := hI
      obtain ⟨t0, t1, t2, t3, t4, t5, t6⟩ := KBV.out.sevenc
      have fr := KBV.out.free
      refine oper_wp_skip (w' := Z) ?_ ⟨_, rfl, rfl⟩
      generalize a'.eval = ρ at *
      rw [hw, hZ]
      simp [execOp, go_sem, e4, e26, t0, t1, t2, t3, t4, t5, t6, fr]
    | 5, ho =>
      simp at ho; subst ho
      have e28 : a'.eval (.tmp 28) = .int .i64 rc := hvals 3 _ _ (by kernel_rfl) rfl rfl
      show s = 1 → _ ∧ Oper.wp _ _ _ _ _ _
      intro hs
      subst hs
      refine ⟨rfl, ?_⟩
      refine oper_wp_ok (v := .int .i64 rc) (w' := w') ?_ ⟨_, rfl, hI, updR_at _ _ _⟩
      generalize a'.eval = ρ at *
      simp [execOp, go_sem, e28]
    | 6, ho =>
      simp at ho; subst ho
      have ec0 : a'.eval (.const (.int .i64 0)) = .int .i64 0 := rfl
      show s = 2 → _ ∧ Oper.wp _ _ _ _ _ _
      intro hs
      subst hs
      refine ⟨rfl, ?_⟩
      obtain ⟨c0, c1⟩ := hI
      refine oper_wp_ok (v := .int .i64 0) (w' := w') ?_ ⟨_, rfl, c0, by rw [updR_ne (by omega)]; exact c1, updR_at _ _ _⟩
      generalize a'.eval = ρ at *
      simp [execOp, go_sem, ec0]
  case fin =>
    rintro r V2 ⟨d0, d1, d2⟩
    simp only [putC, Ck.out, d1, d2, Act.put, List.setIfInBounds_toArray, List.set_cons_succ, List.set_cons_zero]
    rw [d0]
    obtain ⟨u0, u1, u2, u3, u4, u5, u6⟩ := KBZ.out.sevenc
    clear d0 d1 d2 r V2 KMV KMZ KBV KBZ hV hZ V
    go_wp2_with fail
    exact bodyPost_ret (v := .tuple #[.agg #[.int .i64 la2, .int .i64 ne2, .slice b1 m1 d1, .slice b2 m2 d2, .int .i64 fi2, .slice b3 m3 d3, .slice b4 m4 d4], .int .i64 rc, .int .i64 0]) (by simp [results, Try.results17, go_sem, u0, u1, u2, u3, u4, u5, u6]) rfl ⟨_, _, _, _, HEQ.out, HTR.out, HBZ.out⟩

end Go.Proofs.Ytnpaejknoipicag

namespace Go.Proofs.Ytnpaejknoipicag
open Go.RowKit

set_option maxHeartbeats 8000000 in
set_option maxRecDepth 100000 in
theorem trkFeed_any (S : Nat → Prop) (t : Tr) (s : List UInt8) (hv bv gv ov : Value) (w : World) (hr : TrIn S w hv bv gv ov t) :
    Calls Try.prog 7 #[.agg #[.int .i64 t.last, .int .i64 t.next, hv, bv, .int .i64 t.first, gv, ov], .string (ba s)] w fun e w' => ∃ hv' bv' gv' ov', e = .returned (.tuple #[.agg #[.int .i64 (feedA t s).1.last, .int .i64 (feedA t s).1.next, hv', bv', .int .i64 (feedA t s).1.first, gv', ov'], .int .i64 (feedA t s).2.1, .int .i64 (feedA t s).2.2]) ∧ TrIn (fun g => w.heap.size ≤ g) w' hv' bv' gv' ov' (feedA t s).1 ∧ Below w.heap.size w w' := by
  obtain ⟨ha, hc, ba', bc, ga, gc, oa, oc, eh, eb, eg, eo⟩ := hr.slices
  obtain ⟨A, hA⟩ : ∃ A, A = feedA t s := ⟨_, rfl⟩
  obtain ⟨N, hN⟩ : ∃ n, n = w.heap.size + 1 + 1 + 1 := ⟨_, rfl⟩
  have HC : Hid (∀ U, Below w.heap.size w U → N ≤ U.heap.size → Blk U (w.heap.size + 1) #[.string (ba s)] 9 → Calls Try.prog 17 #[.agg #[.int .i64 t.last, .int .i64 t.next, hv, bv, .int .i64 t.first, gv, ov], .func (.func 18) #[] #[.pointer (some ⟨w.heap.size + 1, 0, none⟩)]] U fun e w' => ∃ la2 ne2 b1 m1 d1 b2 m2 d2 fi2 b3 m3 d3 b4 m4 d4 rc re, e = .returned (.tuple #[.agg #[.int .i64 la2, .int .i64 ne2, .slice b1 m1 d1, .slice b2 m2 d2, .int .i64 fi2, .slice b3 m3 d3, .slice b4 m4 d4], .int .i64 rc, .int .i64 re]) ∧ Hid (la2 = A.1.last ∧ ne2 = A.1.next ∧ fi2 = A.1.first ∧ rc = (A.2.1 : Int) ∧ re = A.2.2 ∧ TrIn (fun g => N ≤ g) w' (.slice b1 m1 d1) (.slice b2 m2 d2) (.slice b3 m3 d3) (.slice b4 m4 d4) A.1) ∧ Below U.heap.size U w') := fun U hU hn hs => by
    refine (trkChangeF_any t s _ hv bv gv ov U ((hr.below hU).to (S' := fun g => g < U.heap.size) (SameOn.refl _ _) (fun g hg _ => hg)) hs).mono ?_
    rintro e w' ⟨x1, x2, x3, x4, rfl, q, b⟩
    rw [← hA] at q ⊢
    obtain ⟨a1, c1, a2, c2, a3, c3, a4, c4, e1, e2, e3, e4⟩ := q.slices
    subst e1 e2 e3 e4
    exact ⟨_, _, _, _, _, _, _, _, _, _, _, _, _, _, _, _, _, rfl, ⟨rfl, rfl, rfl, rfl, rfl, q.mono fun g _ hg => Nat.le_trans hn hg⟩, b⟩
  rw [← hA]
  obtain ⟨nh, hnh⟩ : ∃ n, n = t.h.length := ⟨_, rfl⟩
  obtain ⟨no, hno⟩ : ∃ n, n = t.o.length := ⟨_, rfl⟩
  obtain ⟨ng, hng⟩ : ∃ n, n = t.L.length := ⟨_, rfl⟩
  obtain ⟨nO, hnO⟩ : ∃ n, n = t.O.length := ⟨_, rfl⟩
  rw [← hnh] at eh
  rw [← hno] at eb
  rw [← hng] at eg
  rw [← hnO] at eo
  obtain ⟨last, hla⟩ : ∃ x, x = t.last := ⟨_, rfl⟩
  obtain ⟨next, hne⟩ : ∃ x, x = t.next := ⟨_, rfl⟩
  obtain ⟨first, hfi⟩ : ∃ x, x = t.first := ⟨_, rfl⟩
  rw [← hla, ← hne, ← hfi] at HC ⊢
  clear hla hne hfi hr hnh hno hng hnO hA
  subst eh eb eg eo
  obtain ⟨W, hW⟩ : ∃ W, W = ((w.alloc (.cells #[.int .i64 last, .int .i64 next, .slice ha nh hc, .slice ba' no bc, .int .i64 first, .slice ga ng gc, .slice oa nO oc] 34)).alloc (.cells #[.string (ba s)] 9)).alloc (.cells #[.int .i64 0, .int .i64 0, .slice none 0 0, .slice none 0 0, .int .i64 0, .slice none 0 0, .slice none 0 0] 34) := ⟨_, rfl⟩
  have BW : Hid (Below w.heap.size w W) := by
    rw [hW]; exact (((Below.refl _ _).alloc (Nat.le_refl _) _).alloc (by simp) _).alloc (by simp; omega) _
  have KB : Hid (Blk W (w.heap.size + 1 + 1) #[.int .i64 0, .int .i64 0, .slice none 0 0, .slice none 0 0, .int .i64 0, .slice none 0 0, .slice none 0 0] 34) := by
    have := Blk.new ((w.alloc (.cells #[.int .i64 last, .int .i64 next, .slice ha nh hc, .slice ba' no bc, .int .i64 first, .slice ga ng gc, .slice oa nO oc] 34)).alloc (.cells #[.string (ba s)] 9)) #[.int .i64 0, .int .i64 0, .slice none 0 0, .slice none 0 0, .int .i64 0, .slice none 0 0, .slice none 0 0] 34
    rw [hW]; simpa [Hid] using this
  have KS : Hid (Blk W (w.heap.size + 1) #[.string (ba s)] 9) := by
    have k := Blk.new (w.alloc (.cells #[.int .i64 last, .int .i64 next, .slice ha nh hc, .slice ba' no bc, .int .i64 first, .slice ga ng gc, .slice oa nO oc] 34)) #[.string (ba s)] 9
    have k2 := k.below ((Below.refl _ _).alloc (Nat.le_refl _) (.cells #[.int .i64 0, .int .i64 0, .slice none 0 0, .slice none 0 0, .int .i64 0, .slice none 0 0, .slice none 0 0] 34)) k.lt
    rw [hW]; simpa [Hid] using k2
  have hsz : N ≤ W.heap.size := by rw [hW, hN]; simp
  go_enter Try.func7, Try.ntmps7
  go_wp2_with fail
  rw [← hW]
  clear hW
  refine (HC.out W BW.out hsz KS.out).mono ?_
  rintro e w1 ⟨la2, ne2, b1, m1, d1, b2, m2, d2, fi2, b3, m3, d3, b4, m4, d4, rc, re, rfl, HR, hb⟩
  have KB1 : Hid (Blk w1 (w.heap.size + 1 + 1) #[.int .i64 0, .int .i64 0, .slice none 0 0, .slice none 0 0, .int .i64 0, .slice none 0 0, .slice none 0 0] 34) := KB.out.below hb KB.out.lt
  have BW1 : Hid (Below w.heap.size w w1) := BW.out.trans (hb.mono BW.out.size)
  clear hb KB BW HC hsz KS
  obtain ⟨z0, z1, z2, z3, z4, z5, z6⟩ := KB1.out.sevenc
  have g0 := KB1.out.free 0
  have g1 := KB1.out.free 1
  have g2 := KB1.out.free 2
  have g3 := KB1.out.free 3
  have g4 := KB1.out.free 4
  have g5 := KB1.out.free 5
  have g6 := KB1.out.free 6
  go_wp2_with fail
  clear z0 z1 z2 z3 z4 z5 z6 g0 g1 g2 g3 g4 g5 g6
  obtain ⟨Z, hZ⟩ : ∃ Z, Z = (((((((w1.setCell ⟨w.heap.size + 1 + 1, 0, none⟩ (.int .i64 la2)).setCell ⟨w.heap.size + 1 + 1, 1, none⟩ (.int .i64 ne2)).setCell ⟨w.heap.size + 1 + 1, 2, none⟩ (.slice b1 m1 d1)).setCell ⟨w.heap.size + 1 + 1, 3, none⟩ (.slice b2 m2 d2)).setCell ⟨w.heap.size + 1 + 1, 4, none⟩ (.int .i64 fi2)).setCell ⟨w.heap.size + 1 + 1, 5, none⟩ (.slice b3 m3 d3)).setCell ⟨w.heap.size + 1 + 1, 6, none⟩ (.slice b4 m4 d4)) := ⟨_, rfl⟩
  have KZ : Hid (Blk Z (w.heap.size + 1 + 1) #[.int .i64 la2, .int .i64 ne2, .slice b1 m1 d1, .slice b2 m2 d2, .int .i64 fi2, .slice b3 m3 d3, .slice b4 m4 d4] 34) := by rw [hZ]; exact seven_out KB1.out _ _ _ _ _ _ _
  have BZ : Hid (Below w.heap.size w Z) := by rw [hZ]; exact seven_below BW1.out (by omega) _ _ _ _ _ _ _
  obtain ⟨h1, h2, h3, h4, h5, hT⟩ := HR.out
  have hTZ : TrIn (fun g => w.heap.size ≤ g) Z (.slice b1 m1 d1) (.slice b2 m2 d2) (.slice b3 m3 d3) (.slice b4 m4 d4) A.1 := by
    rw [hZ]; exact hT.to (seven_same (by omega) _ _ _ _ _ _ _) (fun g _ hg => by omega)
  rw [← hZ]
  clear hZ KB1 BW1 HR hT hN
  obtain ⟨q0, q1, q2, q3, q4, q5, q6⟩ := KZ.out.sevenc
  rw [← h1, ← h2, ← h3, ← h4, ← h5]
  clear h1 h2 h3 h4 h5
  exact bodyPost_ret (v := .tuple #[.agg #[.int .i64 la2, .int .i64 ne2, .slice b1 m1 d1, .slice b2 m2 d2, .int .i64 fi2, .slice b3 m3 d3, .slice b4 m4 d4], .int .i64 rc, .int .i64 re]) (by simp [results, Try.results7, go_sem, q0, q1, q2, q3, q4, q5, q6]) rfl ⟨_, _, _, _, rfl, hTZ, BZ.out⟩

set_option maxHeartbeats 8000000 in
set_option maxRecDepth 100000 in
theorem trkDrain_any (S : Nat → Prop) (t : Tr) (hv bv gv ov : Value) (w : World) (hr : TrIn S w hv bv gv ov t) :
    Calls Try.prog 11 #[.agg #[.int .i64 t.last, .int .i64 t.next, hv, bv, .int .i64 t.first, gv, ov]] w fun e w' => ∃ hv' bv' gv' ov', e = .returned (.tuple #[.agg #[.int .i64 (drainA t).1.last, .int .i64 (drainA t).1.next, hv', bv', .int .i64 (drainA t).1.first, gv', ov'], .int .i64 (drainA t).2.1, .int .i64 (drainA t).2.2]) ∧ TrIn (fun g => w.heap.size ≤ g) w' hv' bv' gv' ov' (drainA t).1 ∧ Below w.heap.size w w' := by
  obtain ⟨ha, hc, ba', bc, ga, gc, oa, oc, eh, eb, eg, eo⟩ := hr.slices
  obtain ⟨A, hA⟩ : ∃ A, A = drainA t := ⟨_, rfl⟩
  obtain ⟨N, hN⟩ : ∃ n, n = w.heap.size + 1 + 1 := ⟨_, rfl⟩
  have HC : Hid (∀ U, Below w.heap.size w U → N ≤ U.heap.size → Calls Try.prog 17 #[.agg #[.int .i64 t.last, .int .i64 t.next, hv, bv, .int .i64 t.first, gv, ov], .func (.func 24) #[] #[]] U fun e w' => ∃ la2 ne2 b1 m1 d1 b2 m2 d2 fi2 b3 m3 d3 b4 m4 d4 rc re, e = .returned (.tuple #[.agg #[.int .i64 la2, .int .i64 ne2, .slice b1 m1 d1, .slice b2 m2 d2, .int .i64 fi2, .slice b3 m3 d3, .slice b4 m4 d4], .int .i64 rc, .int .i64 re]) ∧ Hid (la2 = A.1.last ∧ ne2 = A.1.next ∧ fi2 = A.1.first ∧ rc = (A.2.1 : Int) ∧ re = A.2.2 ∧ TrIn (fun g => N ≤ g) w' (.slice b1 m1 d1) (.slice b2 m2 d2) (.slice b3 m3 d3) (.slice b4 m4 d4) A.1) ∧ Below U.heap.size U w') := fun U hU hn => by
    refine (trkChangeD_any t hv bv gv ov U ((hr.below hU).to (S' := fun g => g < U.heap.size) (SameOn.refl _ _) (fun g hg _ => hg))).mono ?_
    rintro e w' ⟨x1, x2, x3, x4, rfl, q, b⟩
    rw [← hA] at q ⊢
    obtain ⟨a1, c1, a2, c2, a3, c3, a4, c4, e1, e2, e3, e4⟩ := q.slices
    subst e1 e2 e3 e4
    exact ⟨_, _, _, _, _, _, _, _, _, _, _, _, _, _, _, _, _, rfl, ⟨rfl, rfl, rfl, rfl, rfl, q.mono fun g _ hg => Nat.le_trans hn hg⟩, b⟩
  rw [← hA]
  obtain ⟨nh, hnh⟩ : ∃ n, n = t.h.length := ⟨_, rfl⟩
  obtain ⟨no, hno⟩ : ∃ n, n = t.o.length := ⟨_, rfl⟩
  obtain ⟨ng, hng⟩ : ∃ n, n = t.L.length := ⟨_, rfl⟩
  obtain ⟨nO, hnO⟩ : ∃ n, n = t.O.length := ⟨_, rfl⟩
  rw [← hnh] at eh
  rw [← hno] at eb
  rw [← hng] at eg
  rw [← hnO] at eo
  obtain ⟨last, hla⟩ : ∃ x, x = t.last := ⟨_, rfl⟩
  obtain ⟨next, hne⟩ : ∃ x, x = t.next := ⟨_, rfl⟩
  obtain ⟨first, hfi⟩ : ∃ x, x = t.first := ⟨_, rfl⟩
  rw [← hla, ← hne, ← hfi] at HC ⊢
  clear hla hne hfi hr hnh hno hng hnO hA
  subst eh eb eg eo
  obtain ⟨W, hW⟩ : ∃ W, W = (w.alloc (.cells #[.int .i64 last, .int .i64 next, .slice ha nh hc, .slice ba' no bc, .int .i64 first, .slice ga ng gc, .slice oa nO oc] 34)).alloc (.cells #[.int .i64 0, .int .i64 0, .slice none 0 0, .slice none 0 0, .int .i64 0, .slice none 0 0, .slice none 0 0] 34) := ⟨_, rfl⟩
  have BW : Hid (Below w.heap.size w W) := by
    rw [hW]; exact ((Below.refl _ _).alloc (Nat.le_refl _) _).alloc (by simp) _
  have KB : Hid (Blk W (w.heap.size + 1) #[.int .i64 0, .int .i64 0, .slice none 0 0, .slice none 0 0, .int .i64 0, .slice none 0 0, .slice none 0 0] 34) := by
    have := Blk.new (w.alloc (.cells #[.int .i64 last, .int .i64 next, .slice ha nh hc, .slice ba' no bc, .int .i64 first, .slice ga ng gc, .slice oa nO oc] 34)) #[.int .i64 0, .int .i64 0, .slice none 0 0, .slice none 0 0, .int .i64 0, .slice none 0 0, .slice none 0 0] 34
    rw [hW]; simpa [Hid] using this
  have hsz : N ≤ W.heap.size := by rw [hW, hN]; simp
  go_enter Try.func11, Try.ntmps11
  go_wp2_with fail
  rw [← hW]
  clear hW
  refine (HC.out W BW.out hsz).mono ?_
  rintro e w1 ⟨la2, ne2, b1, m1, d1, b2, m2, d2, fi2, b3, m3, d3, b4, m4, d4, rc, re, rfl, HR, hb⟩
  have KB1 : Hid (Blk w1 (w.heap.size + 1) #[.int .i64 0, .int .i64 0, .slice none 0 0, .slice none 0 0, .int .i64 0, .slice none 0 0, .slice none 0 0] 34) := KB.out.below hb KB.out.lt
  have BW1 : Hid (Below w.heap.size w w1) := BW.out.trans (hb.mono BW.out.size)
  clear hb KB BW HC hsz
  obtain ⟨z0, z1, z2, z3, z4, z5, z6⟩ := KB1.out.sevenc
  have g0 := KB1.out.free 0
  have g1 := KB1.out.free 1
  have g2 := KB1.out.free 2
  have g3 := KB1.out.free 3
  have g4 := KB1.out.free 4
  have g5 := KB1.out.free 5
  have g6 := KB1.out.free 6
  go_wp2_with fail
  clear z0 z1 z2 z3 z4 z5 z6 g0 g1 g2 g3 g4 g5 g6
  obtain ⟨Z, hZ⟩ : ∃ Z, Z = (((((((w1.setCell ⟨w.heap.size + 1, 0, none⟩ (.int .i64 la2)).setCell ⟨w.heap.size + 1, 1, none⟩ (.int .i64 ne2)).setCell ⟨w.heap.size + 1, 2, none⟩ (.slice b1 m1 d1)).setCell ⟨w.heap.size + 1, 3, none⟩ (.slice b2 m2 d2)).setCell ⟨w.heap.size + 1, 4, none⟩ (.int .i64 fi2)).setCell ⟨w.heap.size + 1, 5, none⟩ (.slice b3 m3 d3)).setCell ⟨w.heap.size + 1, 6, none⟩ (.slice b4 m4 d4)) := ⟨_, rfl⟩
  have KZ : Hid (Blk Z (w.heap.size + 1) #[.int .i64 la2, .int .i64 ne2, .slice b1 m1 d1, .slice b2 m2 d2, .int .i64 fi2, .slice b3 m3 d3, .slice b4 m4 d4] 34) := by rw [hZ]; exact seven_out KB1.out _ _ _ _ _ _ _
  have BZ : Hid (Below w.heap.size w Z) := by rw [hZ]; exact seven_below BW1.out (by omega) _ _ _ _ _ _ _
  obtain ⟨h1, h2, h3, h4, h5, hT⟩ := HR.out
  have hTZ : TrIn (fun g => w.heap.size ≤ g) Z (.slice b1 m1 d1) (.slice b2 m2 d2) (.slice b3 m3 d3) (.slice b4 m4 d4) A.1 := by
    rw [hZ]; exact hT.to (seven_same (by omega) _ _ _ _ _ _ _) (fun g _ hg => by omega)
  rw [← hZ]
  clear hZ KB1 BW1 HR hT hN
  obtain ⟨q0, q1, q2, q3, q4, q5, q6⟩ := KZ.out.sevenc
  rw [← h1, ← h2, ← h3, ← h4, ← h5]
  clear h1 h2 h3 h4 h5
  exact bodyPost_ret (v := .tuple #[.agg #[.int .i64 la2, .int .i64 ne2, .slice b1 m1 d1, .slice b2 m2 d2, .int .i64 fi2, .slice b3 m3 d3, .slice b4 m4 d4], .int .i64 rc, .int .i64 re]) (by simp [results, Try.results11, go_sem, q0, q1, q2, q3, q4, q5, q6]) rfl ⟨_, _, _, _, rfl, hTZ, BZ.out⟩

end Go.Proofs.Ytnpaejknoipicag

namespace Go.Proofs.Ytnpaejknoipicag
open Go.RowKit

set_option maxHeartbeats 4000000 in
theorem track_set7 {w : World} {g : Nat} {C : Array Value} {t : TypeId} (h : Blk w g C t) (hs : C.size = 7) (x0 x1 x2 x3 x4 x5 x6 : Value) :
    (((((((w.setCell ⟨g, 0, none⟩ x0).setCell ⟨g, 1, none⟩ x1).setCell ⟨g, 2, none⟩ x2).setCell ⟨g, 3, none⟩ x3).setCell ⟨g, 4, none⟩ x4).setCell ⟨g, 5, none⟩ x5).setCell ⟨g, 6, none⟩ x6).heap.size = w.heap.size ∧ Blk (((((((w.setCell ⟨g, 0, none⟩ x0).setCell ⟨g, 1, none⟩ x1).setCell ⟨g, 2, none⟩ x2).setCell ⟨g, 3, none⟩ x3).setCell ⟨g, 4, none⟩ x4).setCell ⟨g, 5, none⟩ x5).setCell ⟨g, 6, none⟩ x6) g #[x0, x1, x2, x3, x4, x5, x6] t ∧ ∀ j, j ≠ g → (((((((w.setCell ⟨g, 0, none⟩ x0).setCell ⟨g, 1, none⟩ x1).setCell ⟨g, 2, none⟩ x2).setCell ⟨g, 3, none⟩ x3).setCell ⟨g, 4, none⟩ x4).setCell ⟨g, 5, none⟩ x5).setCell ⟨g, 6, none⟩ x6).heap[j]? = w.heap[j]? := by
  obtain ⟨l⟩ := C
  match l, hs with
  | [c0, c1, c2, c3, c4, c5, c6], _ =>
    have e : ∀ (V : World) (i : Nat) (x : Value), (V.setCell ⟨g, i, none⟩ x).heap.size = V.heap.size := fun V i x => by simp
    have k := ((((((h.set 0 x0).set 1 x1).set 2 x2).set 3 x3).set 4 x4).set 5 x5).set 6 x6
    refine ⟨by rw [e, e, e, e, e, e, e], k, fun j hj => ?_⟩
    iterate 6 refine (Below.heap_setCell _ _ _ _ (by exact hj)).trans ?_
    exact Below.heap_setCell _ _ _ _ (by exact hj)
theorem track_cells7 {w : World} {g : Nat} {C : Array Value} {t : TypeId} (h : Blk w g C t) (hs : C.size = 7) : ∃ c0 c1 c2 c3 c4 c5 c6, w.cell? ⟨g, 0, none⟩ = some c0 ∧ w.cell? ⟨g, 1, none⟩ = some c1 ∧ w.cell? ⟨g, 2, none⟩ = some c2 ∧ w.cell? ⟨g, 3, none⟩ = some c3 ∧ w.cell? ⟨g, 4, none⟩ = some c4 ∧ w.cell? ⟨g, 5, none⟩ = some c5 ∧ w.cell? ⟨g, 6, none⟩ = some c6 := by
  obtain ⟨l⟩ := C
  match l, hs with
  | [c0, c1, c2, c3, c4, c5, c6], _ => exact ⟨c0, c1, c2, c3, c4, c5, c6, h.cell rfl, h.cell rfl, h.cell rfl, h.cell rfl, h.cell rfl, h.cell rfl, h.cell rfl⟩

def tp1 : Pk := ⟨65535, 5, true, true, true, ⟨#[97]⟩⟩
def tp2 : Pk := ⟨1, 9, true, true, true, ⟨#[99]⟩⟩
def tp3 : Pk := ⟨0, 7, true, true, true, ⟨#[98]⟩⟩
def tB1 : Tr := (feedA Tr.zero tp1.enc).1
def tB2 : Tr := (feedA tB1 tp2.enc).1
def tB3 : Tr := (feedA tB2 tp3.enc).1
def tBd : Tr := (drainA tB2).1
theorem tbF1 : (feedA Tr.zero tp1.enc).2 = (0, 0) := by kernel_rfl
theorem tbF2 : (feedA tB1 tp2.enc).2 = (0, 0) := by kernel_rfl
theorem tbF3 : (feedA tB2 tp3.enc).2 = (2, 0) := by kernel_rfl
theorem tbFd : (drainA tB2).2 = (1, 0) := by kernel_rfl
theorem tbK : tB3.chk = 0 ∧ tB3.last = 131073 ∧ tB3.L.length = 2 ∧ tBd.L.length = 1 := ⟨by kernel_rfl, by kernel_rfl, by kernel_rfl, by kernel_rfl⟩

theorem trWhole_any (seq time : Int) (t : ByteArray) (w : World) :
    Calls Try.prog 10 #[.int .i64 seq, .int .i64 time, .string t] w fun e w' => e = .returned (.agg #[.int .i64 seq, .int .i64 time, .bool true, .bool true, .bool true, .string t]) ∧ Below w.heap.size w w' := by
  go_enter Try.func10, Try.ntmps10
  go_wp2
  exact bodyPost_ret (v := .agg #[.int .i64 seq, .int .i64 time, .bool true, .bool true, .bool true, .string t]) (by simp [results, Try.results10, go_sem]) rfl ⟨rfl, (Below.refl _ _).alloc (Nat.le_refl _) _⟩

theorem bytesOf_any (s t : Int) (f e k : Bool) (x : ByteArray) (w : World) (h : (Pk.mk s t f e k x).chk = 0) :
    Calls Try.prog 8 #[.agg #[.int .i64 s, .int .i64 t, .bool f, .bool e, .bool k, .string x]] w fun r w' => r = .returned (.string (ba (Pk.mk s t f e k x).enc)) ∧ Below w.heap.size w w' := by
  obtain ⟨b, hb⟩ : ∃ b, b = ba (Pk.mk s t f e k x).enc := ⟨_, rfl⟩
  have HP : Hid (∀ W : World, Calls Try.prog 20 #[.agg #[.int .i64 s, .int .i64 t, .bool f, .bool e, .bool k, .string x]] W fun r w' => r = .returned (.string b) ∧ Below W.heap.size W w') := fun W => by rw [hb]; exact packetBytes_any _ W h
  rw [← hb]
  clear hb h
  go_enter Try.func8, Try.ntmps8
  go_wp2_with fail
  refine (HP.out _).mono ?_
  rintro r w1 ⟨rfl, b1⟩
  have BW : Hid (Below w.heap.size w w1) := ((Below.refl _ w).alloc (Nat.le_refl _) _).trans (b1.mono (by simp))
  clear b1
  go_wp2
  go_ret
  exact ⟨rfl, BW.out⟩

/-- track.Feed, as the laws' walks want it: all values under names -/
theorem begFeed (t t' : Tr) (s : List UInt8) (cl : Nat) (er : Int) (la0 ne0 fi0 : Int) (hv bv gv ov : Value) (S : Nat → Prop) (w : World) (hf : feedA t s = (t', cl, er)) (hl : la0 = t.last) (hn : ne0 = t.next) (hi : fi0 = t.first) (hr : TrIn S w hv bv gv ov t) :
    Calls Try.prog 7 #[.agg #[.int .i64 la0, .int .i64 ne0, hv, bv, .int .i64 fi0, gv, ov], .string (ba s)] w fun e w' => ∃ la1 ne1 ha1 hn1 hc1 oa1 on1 oc1 fi1 ga1 gn1 gc1 pa1 pn1 pc1, e = .returned (.tuple #[.agg #[.int .i64 la1, .int .i64 ne1, .slice ha1 hn1 hc1, .slice oa1 on1 oc1, .int .i64 fi1, .slice ga1 gn1 gc1, .slice pa1 pn1 pc1], .int .i64 cl, .int .i64 er]) ∧ Hid (la1 = t'.last ∧ ne1 = t'.next ∧ fi1 = t'.first ∧ gn1 = t'.L.length) ∧ Hid (TrIn (fun g => w.heap.size ≤ g) w' (.slice ha1 hn1 hc1) (.slice oa1 on1 oc1) (.slice ga1 gn1 gc1) (.slice pa1 pn1 pc1) t') ∧ Below w.heap.size w w' := by
  subst hl hn hi
  refine (trkFeed_any S t s hv bv gv ov w hr).mono ?_
  rw [hf]
  rintro e w' ⟨x1, x2, x3, x4, rfl, q, b⟩
  obtain ⟨a1, c1, a2, c2, a3, c3, a4, c4, e1, e2, e3, e4⟩ := q.slices
  subst e1 e2 e3 e4
  exact ⟨_, _, _, _, _, _, _, _, _, _, _, _, _, _, _, rfl, ⟨rfl, rfl, rfl, rfl⟩, q, b⟩
theorem begDrain (t t' : Tr) (cl : Nat) (er : Int) (la0 ne0 fi0 : Int) (hv bv gv ov : Value) (S : Nat → Prop) (w : World) (hf : drainA t = (t', cl, er)) (hl : la0 = t.last) (hn : ne0 = t.next) (hi : fi0 = t.first) (hr : TrIn S w hv bv gv ov t) :
    Calls Try.prog 11 #[.agg #[.int .i64 la0, .int .i64 ne0, hv, bv, .int .i64 fi0, gv, ov]] w fun e w' => ∃ la1 ne1 ha1 hn1 hc1 oa1 on1 oc1 fi1 ga1 gn1 gc1 pa1 pn1 pc1, e = .returned (.tuple #[.agg #[.int .i64 la1, .int .i64 ne1, .slice ha1 hn1 hc1, .slice oa1 on1 oc1, .int .i64 fi1, .slice ga1 gn1 gc1, .slice pa1 pn1 pc1], .int .i64 cl, .int .i64 er]) ∧ Hid (la1 = t'.last ∧ ne1 = t'.next ∧ fi1 = t'.first ∧ gn1 = t'.L.length) ∧ Hid (TrIn (fun g => w.heap.size ≤ g) w' (.slice ha1 hn1 hc1) (.slice oa1 on1 oc1) (.slice ga1 gn1 gc1) (.slice pa1 pn1 pc1) t') ∧ Below w.heap.size w w' := by
  subst hl hn hi
  refine (trkDrain_any S t hv bv gv ov w hr).mono ?_
  rw [hf]
  rintro e w' ⟨x1, x2, x3, x4, rfl, q, b⟩
  obtain ⟨a1, c1, a2, c2, a3, c3, a4, c4, e1, e2, e3, e4⟩ := q.slices
  subst e1 e2 e3 e4
  exact ⟨_, _, _, _, _, _, _, _, _, _, _, _, _, _, _, rfl, ⟨rfl, rfl, rfl, rfl⟩, q, b⟩

end Go.Proofs.Ytnpaejknoipicag

namespace Go.Proofs.Ytnpaejknoipicag
open Go.RowKit

set_option maxHeartbeats 16000000 in
set_option maxRecDepth 100000 in
theorem trackBegun_any (w : World) :
    Calls Try.prog 4 #[] w fun e w' => e = .returned (.bool true) ∧ Below w.heap.size w w' := by
  obtain ⟨bb1, hb1⟩ : ∃ b, b = tp1.enc := ⟨_, rfl⟩
  obtain ⟨bb2, hb2⟩ : ∃ b, b = tp2.enc := ⟨_, rfl⟩
  obtain ⟨bb3, hb3⟩ : ∃ b, b = tp3.enc := ⟨_, rfl⟩
  obtain ⟨tb0, ht0⟩ : ∃ t, t = Tr.zero := ⟨_, rfl⟩
  obtain ⟨tb1, ht1⟩ : ∃ t, t = tB1 := ⟨_, rfl⟩
  obtain ⟨tb2, ht2⟩ : ∃ t, t = tB2 := ⟨_, rfl⟩
  obtain ⟨tb3, ht3⟩ : ∃ t, t = tB3 := ⟨_, rfl⟩
  obtain ⟨tb4, ht4⟩ : ∃ t, t = tBd := ⟨_, rfl⟩
  have HE1 : Hid (feedA tb0 bb1 = (tb1, 0, 0)) := by rw [ht0, hb1, ht1]; exact Prod.ext rfl tbF1
  have HE2 : Hid (feedA tb1 bb2 = (tb2, 0, 0)) := by rw [ht1, hb2, ht2]; exact Prod.ext rfl tbF2
  have HE3 : Hid (feedA tb2 bb3 = (tb3, 2, 0)) := by rw [ht2, hb3, ht3]; exact Prod.ext rfl tbF3
  have HE4 : Hid (drainA tb2 = (tb4, 1, 0)) := by rw [ht2, ht4]; exact Prod.ext rfl tbFd
  have HK : Hid (tb3.chk = 0 ∧ tb3.last = 131073 ∧ tb3.L.length = 2 ∧ tb4.L.length = 1) := by rw [ht3, ht4]; exact tbK
  have HZ : Hid (tb0.last = 0 ∧ tb0.next = 0 ∧ tb0.first = 0 ∧ ∀ W, TrIn (fun _ => True) W (.slice none 0 0) (.slice none 0 0) (.slice none 0 0) (.slice none 0 0) tb0) := by rw [ht0]; exact ⟨rfl, rfl, rfl, fun W => TrIn.zero _ W⟩
  have HW : Hid (∀ (seq time : Int) (t : ByteArray) (W : World), Calls Try.prog 10 #[.int .i64 seq, .int .i64 time, .string t] W fun e w' => e = .returned (.agg #[.int .i64 seq, .int .i64 time, .bool true, .bool true, .bool true, .string t]) ∧ Below W.heap.size W w') := trWhole_any
  have HB1 : Hid (∀ W : World, Calls Try.prog 8 #[.agg #[.int .i64 65535, .int .i64 5, .bool true, .bool true, .bool true, .string ⟨#[97]⟩]] W fun e w' => e = .returned (.string (ba bb1)) ∧ Below W.heap.size W w') := by rw [hb1]; exact fun W => bytesOf_any _ _ _ _ _ _ W (by decide)
  have HB2 : Hid (∀ W : World, Calls Try.prog 8 #[.agg #[.int .i64 1, .int .i64 9, .bool true, .bool true, .bool true, .string ⟨#[99]⟩]] W fun e w' => e = .returned (.string (ba bb2)) ∧ Below W.heap.size W w') := by rw [hb2]; exact fun W => bytesOf_any _ _ _ _ _ _ W (by decide)
  have HB3 : Hid (∀ W : World, Calls Try.prog 8 #[.agg #[.int .i64 0, .int .i64 7, .bool true, .bool true, .bool true, .string ⟨#[98]⟩]] W fun e w' => e = .returned (.string (ba bb3)) ∧ Below W.heap.size W w') := by rw [hb3]; exact fun W => bytesOf_any _ _ _ _ _ _ W (by decide)
  have HF1 : Hid (∀ W : World, Calls Try.prog 7 #[.agg #[.int .i64 0, .int .i64 0, .slice none 0 0, .slice none 0 0, .int .i64 0, .slice none 0 0, .slice none 0 0], .string (ba bb1)] W fun e w' => ∃ la1 ne1 ha1 hn1 hc1 oa1 on1 oc1 fi1 ga1 gn1 gc1 pa1 pn1 pc1, e = .returned (.tuple #[.agg #[.int .i64 la1, .int .i64 ne1, .slice ha1 hn1 hc1, .slice oa1 on1 oc1, .int .i64 fi1, .slice ga1 gn1 gc1, .slice pa1 pn1 pc1], .int .i64 0, .int .i64 0]) ∧ Hid (la1 = tb1.last ∧ ne1 = tb1.next ∧ fi1 = tb1.first ∧ gn1 = tb1.L.length) ∧ Hid (TrIn (fun g => W.heap.size ≤ g) w' (.slice ha1 hn1 hc1) (.slice oa1 on1 oc1) (.slice ga1 gn1 gc1) (.slice pa1 pn1 pc1) tb1) ∧ Below W.heap.size W w') := fun W => begFeed tb0 tb1 bb1 0 0 0 0 0 _ _ _ _ _ W HE1.out HZ.out.1.symm HZ.out.2.1.symm HZ.out.2.2.1.symm (HZ.out.2.2.2 W)
  clear hb1 hb2 hb3 ht0 ht1 ht2 ht3 ht4 HZ HE1
  go_enter Try.func4, Try.ntmps4
  go_wp2_with fail
  refine (HW.out 65535 5 ⟨#[97]⟩ w).mono ?_
  rintro e w1 ⟨rfl, c1⟩
  go_wp2_with fail
  refine (HB1.out w1).mono ?_
  rintro e w2 ⟨rfl, c2⟩
  go_wp2_with fail
  refine (HF1.out w2).mono ?_
  rintro e w3 ⟨la1, ne1, ha1, hn1, hc1, oa1, on1, oc1, fi1, ga1, gn1, gc1, pa1, pn1, pc1, rfl, G1, T1, c3⟩
  have BX : Hid (Below w.heap.size w w3) := (c1.trans (c2.mono c1.size)).trans (c3.mono (Nat.le_trans c1.size c2.size))
  clear c1 c2 c3 HF1 HB1
  obtain ⟨V1, hV1⟩ : ∃ V, V = w3.alloc (.cells #[.int .i64 la1, .int .i64 ne1, .slice ha1 hn1 hc1, .slice oa1 on1 oc1, .int .i64 fi1, .slice ga1 gn1 gc1, .slice pa1 pn1 pc1] 34) := ⟨_, rfl⟩
  obtain ⟨bq1, hbq1⟩ : ∃ b, b = w3.heap.size := ⟨_, rfl⟩
  have KP1 : Hid (Blk V1 bq1 #[.int .i64 la1, .int .i64 ne1, .slice ha1 hn1 hc1, .slice oa1 on1 oc1, .int .i64 fi1, .slice ga1 gn1 gc1, .slice pa1 pn1 pc1] 34) := by rw [hbq1]; exact Blk.newE hV1
  have TR1 : Hid (TrIn (fun _ => True) V1 (.slice ha1 hn1 hc1) (.slice oa1 on1 oc1) (.slice ga1 gn1 gc1) (.slice pa1 pn1 pc1) tb1) := by rw [hV1]; exact (T1.out.mono fun _ _ _ => trivial).to (SameOn.alloc _) fun _ _ h => h
  have BW1 : Hid (Below w.heap.size w V1) := by rw [hV1]; exact BX.out.alloc BX.out.size _
  clear T1 BX
  have HF2 : Hid (∀ W : World, TrIn (fun _ => True) W (.slice ha1 hn1 hc1) (.slice oa1 on1 oc1) (.slice ga1 gn1 gc1) (.slice pa1 pn1 pc1) tb1 → Calls Try.prog 7 #[.agg #[.int .i64 la1, .int .i64 ne1, .slice ha1 hn1 hc1, .slice oa1 on1 oc1, .int .i64 fi1, .slice ga1 gn1 gc1, .slice pa1 pn1 pc1], .string (ba bb2)] W fun e w' => ∃ la2 ne2 ha2 hn2 hc2 oa2 on2 oc2 fi2 ga2 gn2 gc2 pa2 pn2 pc2, e = .returned (.tuple #[.agg #[.int .i64 la2, .int .i64 ne2, .slice ha2 hn2 hc2, .slice oa2 on2 oc2, .int .i64 fi2, .slice ga2 gn2 gc2, .slice pa2 pn2 pc2], .int .i64 0, .int .i64 0]) ∧ Hid (la2 = tb2.last ∧ ne2 = tb2.next ∧ fi2 = tb2.first ∧ gn2 = tb2.L.length) ∧ Hid (TrIn (fun g => W.heap.size ≤ g) w' (.slice ha2 hn2 hc2) (.slice oa2 on2 oc2) (.slice ga2 gn2 gc2) (.slice pa2 pn2 pc2) tb2) ∧ Below W.heap.size W w') := fun W hT => begFeed tb1 tb2 bb2 0 0 _ _ _ _ _ _ _ _ W HE2.out G1.out.1 G1.out.2.1 G1.out.2.2.1 hT
  clear HE2
  go_wp2_with fail
  rw [← hV1]
  rw [← hbq1]
  clear hV1 hbq1 w1 w2 w3
  refine region_main (by kernel_rfl) (by kernel_rfl) [.quiet (.agg #[.int .i64 la1, .int .i64 ne1, .slice ha1 hn1 hc1, .slice oa1 on1 oc1, .int .i64 fi1, .slice ga1 gn1 gc1, .slice pa1 pn1 pc1]), .qcall (.agg #[.int .i64 1, .int .i64 9, .bool true, .bool true, .bool true, .string ⟨#[99]⟩]), .qcall (.string (ba bb2)), .main, .fin (fun r => r), .fin (exT 0), .fin (exT 1), .fin (exT 2), .box 34 #[.int .i64 0, .int .i64 0, .slice none 0 0, .slice none 0 0, .int .i64 0, .slice none 0 0, .slice none 0 0], .put 8 (fun r => aggC (exT 0 r)), .fin (exT 1), .fin (exT 2)] 3 (by kernel_rfl)
    (fun S r w' => ∃ la2 ne2 ha2 hn2 hc2 oa2 on2 oc2 fi2 ga2 gn2 gc2 pa2 pn2 pc2, r = .tuple #[.agg #[.int .i64 la2, .int .i64 ne2, .slice ha2 hn2 hc2, .slice oa2 on2 oc2, .int .i64 fi2, .slice ga2 gn2 gc2, .slice pa2 pn2 pc2], .int .i64 0, .int .i64 0] ∧ (la2 = tb2.last ∧ ne2 = tb2.next ∧ fi2 = tb2.first ∧ gn2 = tb2.L.length) ∧ TrIn S w' (.slice ha2 hn2 hc2) (.slice oa2 on2 oc2) (.slice ga2 gn2 gc2) (.slice pa2 pn2 pc2) tb2) ?loc ?step ?fin
  case loc =>
    rintro S r w1 w3 ⟨la2, ne2, ha2, hn2, hc2, oa2, on2, oc2, fi2, ga2, gn2, gc2, pa2, pn2, pc2, rfl, h1, h2⟩ hs hsame
    exact ⟨la2, ne2, ha2, hn2, hc2, oa2, on2, oc2, fi2, ga2, gn2, gc2, pa2, pn2, pc2, rfl, h1, h2.to ⟨hs, fun g hg hS => hsame g hS hg⟩ (fun _ _ h => h)⟩
  case step =>
    intro i o ho a' w' r hb hfree hvals
    have f1 : a'.eval (.tmp 1) = .pointer (some ⟨bq1, 0, none⟩) := (hfree 1 (by kernel_rfl)).trans rfl
    obtain ⟨y0, y1, y2, y3, y4, y5, y6⟩ := (KP1.out.below hb KP1.out.lt).sevenc
    match i, ho with
    | 0, ho =>
      simp at ho; subst ho
      show (execOp a'.eval _).run _ w' = .ok (.value _) w'
      generalize a'.eval = ρ at *
      simp [execOp, go_sem, f1, y0, y1, y2, y3, y4, y5, y6]
    | 1, ho =>
      simp at ho; subst ho
      have ef : a'.eval (.func 10) = .func (.func 10) #[] #[] := rfl
      have ec : ∀ v, a'.eval (.const v) = v := fun _ => rfl
      show ∃ f args, (execOp a'.eval _).run _ w' = .ok (.enter f args) w' ∧ _
      generalize a'.eval = ρ at *
      exact ⟨10, #[.int .i64 1, .int .i64 9, .string ⟨#[99]⟩], by simp [execOp, go_sem, ef, ec], HW.out 1 9 ⟨#[99]⟩ w'⟩
    | 2, ho =>
      simp at ho; subst ho
      have e23 : a'.eval (.tmp 23) = .agg #[.int .i64 1, .int .i64 9, .bool true, .bool true, .bool true, .string ⟨#[99]⟩] := hvals 1 _ (by kernel_rfl) rfl
      have ef : a'.eval (.func 8) = .func (.func 8) #[] #[] := rfl
      show ∃ f args, (execOp a'.eval _).run _ w' = .ok (.enter f args) w' ∧ _
      generalize a'.eval = ρ at *
      exact ⟨8, #[.agg #[.int .i64 1, .int .i64 9, .bool true, .bool true, .bool true, .string ⟨#[99]⟩]], by simp [execOp, go_sem, e23, ef], HB2.out w'⟩
    | 3, ho =>
      simp at ho; subst ho
      have e22 : a'.eval (.tmp 22) = .agg #[.int .i64 la1, .int .i64 ne1, .slice ha1 hn1 hc1, .slice oa1 on1 oc1, .int .i64 fi1, .slice ga1 gn1 gc1, .slice pa1 pn1 pc1] := hvals 0 _ (by kernel_rfl) rfl
      have e24 : a'.eval (.tmp 24) = .string (ba bb2) := hvals 2 _ (by kernel_rfl) rfl
      have ef : a'.eval (.func 7) = .func (.func 7) #[] #[] := rfl
      show ∃ f args, (execOp a'.eval _).run _ w' = .ok (.enter f args) w' ∧ _
      generalize a'.eval = ρ at *
      refine ⟨7, #[.agg #[.int .i64 la1, .int .i64 ne1, .slice ha1 hn1 hc1, .slice oa1 on1 oc1, .int .i64 fi1, .slice ga1 gn1 gc1, .slice pa1 pn1 pc1], .string (ba bb2)], by simp [execOp, go_sem, e22, e24, ef], ?_⟩
      refine (HF2.out w' (TR1.out.below hb)).mono ?_
      rintro e w'' ⟨la2, ne2, ha2, hn2, hc2, oa2, on2, oc2, fi2, ga2, gn2, gc2, pa2, pn2, pc2, rfl, q1, q2, q3⟩
      exact ⟨_, rfl, ⟨la2, ne2, ha2, hn2, hc2, oa2, on2, oc2, fi2, ga2, gn2, gc2, pa2, pn2, pc2, rfl, q1.out, q2.out.mono fun g hl hg => ⟨hl, .inr hg⟩⟩, q3⟩
    | 4, ho =>
      simp at ho; subst ho
      have e25 : a'.eval (.tmp 25) = r := hvals 3 _ (by kernel_rfl) rfl
      show ∀ S, _ → (execOp a'.eval _).run _ w' = .ok (.value _) w'
      rintro S ⟨la2, ne2, ha2, hn2, hc2, oa2, on2, oc2, fi2, ga2, gn2, gc2, pa2, pn2, pc2, rfl, _⟩
      try simp only [exT] at e25
      generalize a'.eval = ρ at *
      simp [execOp, go_sem, e25]
    | 5, ho =>
      simp at ho; subst ho
      have e21 : a'.eval (.tmp 21) = r := hvals 4 _ (by kernel_rfl) rfl
      show ∀ S, _ → (execOp a'.eval _).run _ w' = .ok (.value _) w'
      rintro S ⟨la2, ne2, ha2, hn2, hc2, oa2, on2, oc2, fi2, ga2, gn2, gc2, pa2, pn2, pc2, rfl, _⟩
      try simp only [exT] at e21
      generalize a'.eval = ρ at *
      simp [execOp, go_sem, e21, exT]
    | 6, ho =>
      simp at ho; subst ho
      have e21 : a'.eval (.tmp 21) = r := hvals 4 _ (by kernel_rfl) rfl
      show ∀ S, _ → (execOp a'.eval _).run _ w' = .ok (.value _) w'
      rintro S ⟨la2, ne2, ha2, hn2, hc2, oa2, on2, oc2, fi2, ga2, gn2, gc2, pa2, pn2, pc2, rfl, _⟩
      try simp only [exT] at e21
      generalize a'.eval = ρ at *
      simp [execOp, go_sem, e21, exT]
    | 7, ho =>
      simp at ho; subst ho
      have e21 : a'.eval (.tmp 21) = r := hvals 4 _ (by kernel_rfl) rfl
      show ∀ S, _ → (execOp a'.eval _).run _ w' = .ok (.value _) w'
      rintro S ⟨la2, ne2, ha2, hn2, hc2, oa2, on2, oc2, fi2, ga2, gn2, gc2, pa2, pn2, pc2, rfl, _⟩
      try simp only [exT] at e21
      generalize a'.eval = ρ at *
      simp [execOp, go_sem, e21, exT]
    | 8, ho =>
      simp at ho; subst ho
      show (execOp a'.eval _).run _ w' = .ok (.value _) _
      generalize a'.eval = ρ at *
      simp [execOp, go_sem]
    | 9, ho =>
      simp at ho; subst ho
      have e26 : a'.eval (.tmp 26) = (exT 0) r := hvals 5 _ (by kernel_rfl) rfl
      show ∀ S, _ → ∀ t z g C, _ → _ → _ → _ → ∃ w'', (execOp a'.eval _).run _ w' = .ok .skip w'' ∧ _
      rintro S ⟨la2, ne2, ha2, hn2, hc2, oa2, on2, oc2, fi2, ga2, gn2, gc2, pa2, pn2, pc2, rfl, _⟩ t z g C hz hC hs (eb : a'.eval (.tmp 4) = _)
      cases hz
      obtain ⟨u0, u1, u2, u3, u4, u5, u6, q0, q1, q2, q3, q4, q5, q6⟩ := track_cells7 hC hs
      have p0 := hC.free 0
      have p1 := hC.free 1
      have p2 := hC.free 2
      have p3 := hC.free 3
      have p4 := hC.free 4
      have p5 := hC.free 5
      have p6 := hC.free 6
      obtain ⟨m1, m2, m3⟩ := track_set7 hC hs (.int .i64 la2) (.int .i64 ne2) (.slice ha2 hn2 hc2) (.slice oa2 on2 oc2) (.int .i64 fi2) (.slice ga2 gn2 gc2) (.slice pa2 pn2 pc2)
      simp only [exT] at e26
      generalize a'.eval = ρ at *
      have hB := seven_below (A := g) (Below.refl 0 w') (Nat.zero_le g) (.int .i64 la2) (.int .i64 ne2) (.slice ha2 hn2 hc2) (.slice oa2 on2 oc2) (.int .i64 fi2) (.slice ga2 gn2 gc2) (.slice pa2 pn2 pc2)
      refine ⟨_, ?_, m1, m2, rfl, m3, hB.os, hB.tape, hB.output⟩
      clear m1 m2 m3 hB
      simp [execOp, go_sem, e26, eb, q0, q1, q2, q3, q4, q5, q6, p0, p1, p2, p3, p4, p5, p6]
    | 10, ho =>
      simp at ho; subst ho
      have e27 : a'.eval (.tmp 27) = (exT 1) r := hvals 6 _ (by kernel_rfl) rfl
      show ∀ S, _ → (execOp a'.eval _).run _ w' = .ok (.value _) w'
      rintro S ⟨la2, ne2, ha2, hn2, hc2, oa2, on2, oc2, fi2, ga2, gn2, gc2, pa2, pn2, pc2, rfl, _⟩
      try simp only [exT] at e27
      generalize a'.eval = ρ at *
      simp [execOp, go_sem, e27, exT]
    | 11, ho =>
      simp at ho; subst ho
      have e28 : a'.eval (.tmp 28) = (exT 2) r := hvals 7 _ (by kernel_rfl) rfl
      show ∀ S, _ → (execOp a'.eval _).run _ w' = .ok (.value _) w'
      rintro S ⟨la2, ne2, ha2, hn2, hc2, oa2, on2, oc2, fi2, ga2, gn2, gc2, pa2, pn2, pc2, rfl, _⟩
      try simp only [exT] at e28
      generalize a'.eval = ρ at *
      simp [execOp, go_sem, e28, exT]
    | i + 12, ho => simp at ho
  case fin =>
    rintro r gs Sr W hb ⟨la2, ne2, ha2, hn2, hc2, oa2, on2, oc2, fi2, ga2, gn2, gc2, pa2, pn2, pc2, rfl, h1, h2⟩ hS hbox hap
    obtain ⟨p1, p2, C, p3, p4⟩ := hbox 8 _ _ (by decide) rfl
    have p5 := p4 9 _ (by decide) rfl
    subst p5
    have KP2 : Hid (Blk W (gs 8) #[.int .i64 la2, .int .i64 ne2, .slice ha2 hn2 hc2, .slice oa2 on2 oc2, .int .i64 fi2, .slice ga2 gn2 gc2, .slice pa2 pn2 pc2] 34) := p3
    simp only [putK, Kd.out, exT, Act.put, List.setIfInBounds_toArray, List.set_cons_succ, List.set_cons_zero, List.getElem?_toArray, List.getElem?_cons_zero, List.getElem?_cons_succ, Option.getD_some]
    obtain ⟨bq2, hbq⟩ : ∃ p, p = gs 8 := ⟨_, rfl⟩
    rw [← hbq] at KP2 p1
    rw [← hbq]
    have BW2 : Hid (Below w.heap.size w W) := BW1.out.trans (hb.mono BW1.out.size)
    have G2 : Hid (la2 = tb2.last ∧ ne2 = tb2.next ∧ fi2 = tb2.first ∧ gn2 = tb2.L.length) := h1
    have TR2 : Hid (TrIn (fun _ => True) W (.slice ha2 hn2 hc2) (.slice oa2 on2 oc2) (.slice ga2 gn2 gc2) (.slice pa2 pn2 pc2) tb2) := h2.mono fun _ _ _ => trivial
    have hbW2 := hb
    clear hbq h1 h2 hS hbox hap p2 p3 p4 hb
    have HF3 : Hid (∀ W : World, TrIn (fun _ => True) W (.slice ha2 hn2 hc2) (.slice oa2 on2 oc2) (.slice ga2 gn2 gc2) (.slice pa2 pn2 pc2) tb2 → Calls Try.prog 7 #[.agg #[.int .i64 la2, .int .i64 ne2, .slice ha2 hn2 hc2, .slice oa2 on2 oc2, .int .i64 fi2, .slice ga2 gn2 gc2, .slice pa2 pn2 pc2], .string (ba bb3)] W fun e w' => ∃ la3 ne3 ha3 hn3 hc3 oa3 on3 oc3 fi3 ga3 gn3 gc3 pa3 pn3 pc3, e = .returned (.tuple #[.agg #[.int .i64 la3, .int .i64 ne3, .slice ha3 hn3 hc3, .slice oa3 on3 oc3, .int .i64 fi3, .slice ga3 gn3 gc3, .slice pa3 pn3 pc3], .int .i64 2, .int .i64 0]) ∧ Hid (la3 = tb3.last ∧ ne3 = tb3.next ∧ fi3 = tb3.first ∧ gn3 = tb3.L.length) ∧ Hid (TrIn (fun g => W.heap.size ≤ g) w' (.slice ha3 hn3 hc3) (.slice oa3 on3 oc3) (.slice ga3 gn3 gc3) (.slice pa3 pn3 pc3) tb3) ∧ Below W.heap.size W w') := fun W hT => begFeed tb2 tb3 bb3 2 0 _ _ _ _ _ _ _ _ W HE3.out G2.out.1 G2.out.2.1 G2.out.2.2.1 hT
    have HD : Hid (∀ W : World, TrIn (fun _ => True) W (.slice ha2 hn2 hc2) (.slice oa2 on2 oc2) (.slice ga2 gn2 gc2) (.slice pa2 pn2 pc2) tb2 → Calls Try.prog 11 #[.agg #[.int .i64 la2, .int .i64 ne2, .slice ha2 hn2 hc2, .slice oa2 on2 oc2, .int .i64 fi2, .slice ga2 gn2 gc2, .slice pa2 pn2 pc2]] W fun e w' => ∃ la4 ne4 ha4 hn4 hc4 oa4 on4 oc4 fi4 ga4 gn4 gc4 pa4 pn4 pc4, e = .returned (.tuple #[.agg #[.int .i64 la4, .int .i64 ne4, .slice ha4 hn4 hc4, .slice oa4 on4 oc4, .int .i64 fi4, .slice ga4 gn4 gc4, .slice pa4 pn4 pc4], .int .i64 1, .int .i64 0]) ∧ Hid (la4 = tb4.last ∧ ne4 = tb4.next ∧ fi4 = tb4.first ∧ gn4 = tb4.L.length) ∧ Hid (TrIn (fun g => W.heap.size ≤ g) w' (.slice ha4 hn4 hc4) (.slice oa4 on4 oc4) (.slice ga4 gn4 gc4) (.slice pa4 pn4 pc4) tb4) ∧ Below W.heap.size W w') := fun W hT => begDrain tb2 tb4 1 0 _ _ _ _ _ _ _ _ W HE4.out G2.out.1 G2.out.2.1 G2.out.2.2.1 hT
    clear HE3 HE4 HF2 KP1 TR1 BW1 G1 hbW2 HB2
    go_wp2_with fail
    refine region_main (by kernel_rfl) (by kernel_rfl) [.quiet (.agg #[.int .i64 la2, .int .i64 ne2, .slice ha2 hn2 hc2, .slice oa2 on2 oc2, .int .i64 fi2, .slice ga2 gn2 gc2, .slice pa2 pn2 pc2]), .qcall (.agg #[.int .i64 0, .int .i64 7, .bool true, .bool true, .bool true, .string ⟨#[98]⟩]), .qcall (.string (ba bb3)), .main, .fin (fun r => r), .fin (exT 0), .fin (exT 1), .fin (exT 2), .box 34 #[.int .i64 0, .int .i64 0, .slice none 0 0, .slice none 0 0, .int .i64 0, .slice none 0 0, .slice none 0 0], .put 8 (fun r => aggC (exT 0 r)), .fin (exT 1), .fin (exT 2)] 3 (by kernel_rfl)
      (fun S r w' => ∃ la3 ne3 ha3 hn3 hc3 oa3 on3 oc3 fi3 ga3 gn3 gc3 pa3 pn3 pc3, r = .tuple #[.agg #[.int .i64 la3, .int .i64 ne3, .slice ha3 hn3 hc3, .slice oa3 on3 oc3, .int .i64 fi3, .slice ga3 gn3 gc3, .slice pa3 pn3 pc3], .int .i64 2, .int .i64 0] ∧ (la3 = tb3.last ∧ ne3 = tb3.next ∧ fi3 = tb3.first ∧ gn3 = tb3.L.length) ∧ TrIn S w' (.slice ha3 hn3 hc3) (.slice oa3 on3 oc3) (.slice ga3 gn3 gc3) (.slice pa3 pn3 pc3) tb3) ?loc ?step ?fin
    case loc =>
      rintro S r w1 w3 ⟨la3, ne3, ha3, hn3, hc3, oa3, on3, oc3, fi3, ga3, gn3, gc3, pa3, pn3, pc3, rfl, h1, h2⟩ hs hsame
      exact ⟨la3, ne3, ha3, hn3, hc3, oa3, on3, oc3, fi3, ga3, gn3, gc3, pa3, pn3, pc3, rfl, h1, h2.to ⟨hs, fun g hg hS => hsame g hS hg⟩ (fun _ _ h => h)⟩
    case step =>
      intro i o ho a' w' r hb hfree hvals
      have f4 : a'.eval (.tmp 4) = .pointer (some ⟨bq2, 0, none⟩) := (hfree 4 (by kernel_rfl)).trans rfl
      obtain ⟨y0, y1, y2, y3, y4, y5, y6⟩ := (KP2.out.below hb KP2.out.lt).sevenc
      match i, ho with
      | 0, ho =>
        simp at ho; subst ho
        show (execOp a'.eval _).run _ w' = .ok (.value _) w'
        generalize a'.eval = ρ at *
        simp [execOp, go_sem, f4, y0, y1, y2, y3, y4, y5, y6]
      | 1, ho =>
        simp at ho; subst ho
        have ef : a'.eval (.func 10) = .func (.func 10) #[] #[] := rfl
        have ec : ∀ v, a'.eval (.const v) = v := fun _ => rfl
        show ∃ f args, (execOp a'.eval _).run _ w' = .ok (.enter f args) w' ∧ _
        generalize a'.eval = ρ at *
        exact ⟨10, #[.int .i64 0, .int .i64 7, .string ⟨#[98]⟩], by simp [execOp, go_sem, ef, ec], HW.out 0 7 ⟨#[98]⟩ w'⟩
      | 2, ho =>
        simp at ho; subst ho
        have e31 : a'.eval (.tmp 31) = .agg #[.int .i64 0, .int .i64 7, .bool true, .bool true, .bool true, .string ⟨#[98]⟩] := hvals 1 _ (by kernel_rfl) rfl
        have ef : a'.eval (.func 8) = .func (.func 8) #[] #[] := rfl
        show ∃ f args, (execOp a'.eval _).run _ w' = .ok (.enter f args) w' ∧ _
        generalize a'.eval = ρ at *
        exact ⟨8, #[.agg #[.int .i64 0, .int .i64 7, .bool true, .bool true, .bool true, .string ⟨#[98]⟩]], by simp [execOp, go_sem, e31, ef], HB3.out w'⟩
      | 3, ho =>
        simp at ho; subst ho
        have e30 : a'.eval (.tmp 30) = .agg #[.int .i64 la2, .int .i64 ne2, .slice ha2 hn2 hc2, .slice oa2 on2 oc2, .int .i64 fi2, .slice ga2 gn2 gc2, .slice pa2 pn2 pc2] := hvals 0 _ (by kernel_rfl) rfl
        have e32 : a'.eval (.tmp 32) = .string (ba bb3) := hvals 2 _ (by kernel_rfl) rfl
        have ef : a'.eval (.func 7) = .func (.func 7) #[] #[] := rfl
        show ∃ f args, (execOp a'.eval _).run _ w' = .ok (.enter f args) w' ∧ _
        generalize a'.eval = ρ at *
        refine ⟨7, #[.agg #[.int .i64 la2, .int .i64 ne2, .slice ha2 hn2 hc2, .slice oa2 on2 oc2, .int .i64 fi2, .slice ga2 gn2 gc2, .slice pa2 pn2 pc2], .string (ba bb3)], by simp [execOp, go_sem, e30, e32, ef], ?_⟩
        refine (HF3.out w' (TR2.out.below hb)).mono ?_
        rintro e w'' ⟨la3, ne3, ha3, hn3, hc3, oa3, on3, oc3, fi3, ga3, gn3, gc3, pa3, pn3, pc3, rfl, q1, q2, q3⟩
        exact ⟨_, rfl, ⟨la3, ne3, ha3, hn3, hc3, oa3, on3, oc3, fi3, ga3, gn3, gc3, pa3, pn3, pc3, rfl, q1.out, q2.out.mono fun g hl hg => ⟨hl, .inr hg⟩⟩, q3⟩
      | 4, ho =>
        simp at ho; subst ho
        have e33 : a'.eval (.tmp 33) = r := hvals 3 _ (by kernel_rfl) rfl
        show ∀ S, _ → (execOp a'.eval _).run _ w' = .ok (.value _) w'
        rintro S ⟨la3, ne3, ha3, hn3, hc3, oa3, on3, oc3, fi3, ga3, gn3, gc3, pa3, pn3, pc3, rfl, _⟩
        try simp only [exT] at e33
        generalize a'.eval = ρ at *
        simp [execOp, go_sem, e33]
      | 5, ho =>
        simp at ho; subst ho
        have e29 : a'.eval (.tmp 29) = r := hvals 4 _ (by kernel_rfl) rfl
        show ∀ S, _ → (execOp a'.eval _).run _ w' = .ok (.value _) w'
        rintro S ⟨la3, ne3, ha3, hn3, hc3, oa3, on3, oc3, fi3, ga3, gn3, gc3, pa3, pn3, pc3, rfl, _⟩
        try simp only [exT] at e29
        generalize a'.eval = ρ at *
        simp [execOp, go_sem, e29, exT]
      | 6, ho =>
        simp at ho; subst ho
        have e29 : a'.eval (.tmp 29) = r := hvals 4 _ (by kernel_rfl) rfl
        show ∀ S, _ → (execOp a'.eval _).run _ w' = .ok (.value _) w'
        rintro S ⟨la3, ne3, ha3, hn3, hc3, oa3, on3, oc3, fi3, ga3, gn3, gc3, pa3, pn3, pc3, rfl, _⟩
        try simp only [exT] at e29
        generalize a'.eval = ρ at *
        simp [execOp, go_sem, e29, exT]
      | 7, ho =>
        simp at ho; subst ho
        have e29 : a'.eval (.tmp 29) = r := hvals 4 _ (by kernel_rfl) rfl
        show ∀ S, _ → (execOp a'.eval _).run _ w' = .ok (.value _) w'
        rintro S ⟨la3, ne3, ha3, hn3, hc3, oa3, on3, oc3, fi3, ga3, gn3, gc3, pa3, pn3, pc3, rfl, _⟩
        try simp only [exT] at e29
        generalize a'.eval = ρ at *
        simp [execOp, go_sem, e29, exT]
      | 8, ho =>
        simp at ho; subst ho
        show (execOp a'.eval _).run _ w' = .ok (.value _) _
        generalize a'.eval = ρ at *
        simp [execOp, go_sem]
      | 9, ho =>
        simp at ho; subst ho
        have e34 : a'.eval (.tmp 34) = (exT 0) r := hvals 5 _ (by kernel_rfl) rfl
        show ∀ S, _ → ∀ t z g C, _ → _ → _ → _ → ∃ w'', (execOp a'.eval _).run _ w' = .ok .skip w'' ∧ _
        rintro S ⟨la3, ne3, ha3, hn3, hc3, oa3, on3, oc3, fi3, ga3, gn3, gc3, pa3, pn3, pc3, rfl, _⟩ t z g C hz hC hs (eb : a'.eval (.tmp 7) = _)
        cases hz
        obtain ⟨u0, u1, u2, u3, u4, u5, u6, q0, q1, q2, q3, q4, q5, q6⟩ := track_cells7 hC hs
        have p0 := hC.free 0
        have p1 := hC.free 1
        have p2 := hC.free 2
        have p3 := hC.free 3
        have p4 := hC.free 4
        have p5 := hC.free 5
        have p6 := hC.free 6
        obtain ⟨m1, m2, m3⟩ := track_set7 hC hs (.int .i64 la3) (.int .i64 ne3) (.slice ha3 hn3 hc3) (.slice oa3 on3 oc3) (.int .i64 fi3) (.slice ga3 gn3 gc3) (.slice pa3 pn3 pc3)
        simp only [exT] at e34
        generalize a'.eval = ρ at *
        have hB := seven_below (A := g) (Below.refl 0 w') (Nat.zero_le g) (.int .i64 la3) (.int .i64 ne3) (.slice ha3 hn3 hc3) (.slice oa3 on3 oc3) (.int .i64 fi3) (.slice ga3 gn3 gc3) (.slice pa3 pn3 pc3)
        refine ⟨_, ?_, m1, m2, rfl, m3, hB.os, hB.tape, hB.output⟩
        clear m1 m2 m3 hB
        simp [execOp, go_sem, e34, eb, q0, q1, q2, q3, q4, q5, q6, p0, p1, p2, p3, p4, p5, p6]
      | 10, ho =>
        simp at ho; subst ho
        have e35 : a'.eval (.tmp 35) = (exT 1) r := hvals 6 _ (by kernel_rfl) rfl
        show ∀ S, _ → (execOp a'.eval _).run _ w' = .ok (.value _) w'
        rintro S ⟨la3, ne3, ha3, hn3, hc3, oa3, on3, oc3, fi3, ga3, gn3, gc3, pa3, pn3, pc3, rfl, _⟩
        try simp only [exT] at e35
        generalize a'.eval = ρ at *
        simp [execOp, go_sem, e35, exT]
      | 11, ho =>
        simp at ho; subst ho
        have e36 : a'.eval (.tmp 36) = (exT 2) r := hvals 7 _ (by kernel_rfl) rfl
        show ∀ S, _ → (execOp a'.eval _).run _ w' = .ok (.value _) w'
        rintro S ⟨la3, ne3, ha3, hn3, hc3, oa3, on3, oc3, fi3, ga3, gn3, gc3, pa3, pn3, pc3, rfl, _⟩
        try simp only [exT] at e36
        generalize a'.eval = ρ at *
        simp [execOp, go_sem, e36, exT]
      | i + 12, ho => simp at ho
    case fin =>
      rintro r gs Sr W hb ⟨la3, ne3, ha3, hn3, hc3, oa3, on3, oc3, fi3, ga3, gn3, gc3, pa3, pn3, pc3, rfl, h1, h2⟩ hS hbox hap
      obtain ⟨p1, p2, C, p3, p4⟩ := hbox 8 _ _ (by decide) rfl
      have p5 := p4 9 _ (by decide) rfl
      subst p5
      have KP3 : Hid (Blk W (gs 8) #[.int .i64 la3, .int .i64 ne3, .slice ha3 hn3 hc3, .slice oa3 on3 oc3, .int .i64 fi3, .slice ga3 gn3 gc3, .slice pa3 pn3 pc3] 34) := p3
      simp only [putK, Kd.out, exT, Act.put, List.setIfInBounds_toArray, List.set_cons_succ, List.set_cons_zero, List.getElem?_toArray, List.getElem?_cons_zero, List.getElem?_cons_succ, Option.getD_some]
      obtain ⟨bq3, hbq⟩ : ∃ p, p = gs 8 := ⟨_, rfl⟩
      rw [← hbq] at KP3 p1
      rw [← hbq]
      have BW3 : Hid (Below w.heap.size w W) := BW2.out.trans (hb.mono BW2.out.size)
      have G3 : Hid (la3 = tb3.last ∧ ne3 = tb3.next ∧ fi3 = tb3.first ∧ gn3 = tb3.L.length) := h1
      have TR3 : Hid (TrIn (fun _ => True) W (.slice ha3 hn3 hc3) (.slice oa3 on3 oc3) (.slice ga3 gn3 gc3) (.slice pa3 pn3 pc3) tb3) := h2.mono fun _ _ _ => trivial
      have hbW3 := hb
      clear hbq h1 h2 hS hbox hap p2 p3 p4 hb
      have KP2' : Hid (Blk W bq2 #[.int .i64 la2, .int .i64 ne2, .slice ha2 hn2 hc2, .slice oa2 on2 oc2, .int .i64 fi2, .slice ga2 gn2 gc2, .slice pa2 pn2 pc2] 34) := KP2.out.below hbW3 KP2.out.lt
      have TR2' : Hid (TrIn (fun _ => True) W (.slice ha2 hn2 hc2) (.slice oa2 on2 oc2) (.slice ga2 gn2 gc2) (.slice pa2 pn2 pc2) tb2) := TR2.out.below hbW3
      clear KP2 TR2 hbW3 BW2 HF3 HB3 HW
      have HC : Hid (∀ U : World, TrIn (fun _ => True) U (.slice ha3 hn3 hc3) (.slice oa3 on3 oc3) (.slice ga3 gn3 gc3) (.slice pa3 pn3 pc3) tb3 → Calls Try.prog 5 #[.agg #[.int .i64 la3, .int .i64 ne3, .slice ha3 hn3 hc3, .slice oa3 on3 oc3, .int .i64 fi3, .slice ga3 gn3 gc3, .slice pa3 pn3 pc3]] U fun e w' => e = .returned (.int .i64 0) ∧ Below U.heap.size U w') := fun U hT => by
        have q := trkCheck_any _ tb3 _ _ _ _ U hT
        rw [← G3.out.1, ← G3.out.2.1, ← G3.out.2.2.1, HK.out.1] at q
        exact q
      have e1 : la3 = 131073 := G3.out.1.trans HK.out.2.1
      have e2 : gn3 = 2 := G3.out.2.2.2.trans HK.out.2.2.1
      have hk4 : Hid (tb4.L.length = 1) := HK.out.2.2.2
      clear G3 HK
      subst e1 e2
      obtain ⟨y0, y1, y2, y3, y4, y5, y6⟩ := KP2'.out.sevenc
      go_wp2_with fail
      refine (HD.out W TR2'.out).mono ?_
      rintro e w5 ⟨la4, ne4, ha4, hn4, hc4, oa4, on4, oc4, fi4, ga4, gn4, gc4, pa4, pn4, pc4, rfl, G4, _, c5⟩
      have e1 : gn4 = 1 := G4.out.2.2.2.trans hk4.out
      subst e1
      have KP3' : Hid (Blk w5 bq3 #[.int .i64 131073, .int .i64 ne3, .slice ha3 hn3 hc3, .slice oa3 on3 oc3, .int .i64 fi3, .slice ga3 2 gc3, .slice pa3 pn3 pc3] 34) := KP3.out.below c5 KP3.out.lt
      have TR3' : Hid (TrIn (fun _ => True) w5 (.slice ha3 hn3 hc3) (.slice oa3 on3 oc3) (.slice ga3 2 gc3) (.slice pa3 pn3 pc3) tb3) := TR3.out.below c5
      have BW5 : Hid (Below w.heap.size w w5) := BW3.out.trans (c5.mono BW3.out.size)
      clear y0 y1 y2 y3 y4 y5 y6 HD G2 G4 hk4 c5 KP2' TR2' KP3 TR3 BW3
      obtain ⟨V5, hV5⟩ : ∃ V, V = w5.alloc (.cells #[.int .i64 la4, .int .i64 ne4, .slice ha4 hn4 hc4, .slice oa4 on4 oc4, .int .i64 fi4, .slice ga4 1 gc4, .slice pa4 pn4 pc4] 34) := ⟨_, rfl⟩
      obtain ⟨bq5, hbq5⟩ : ∃ b, b = w5.heap.size := ⟨_, rfl⟩
      have KP5 : Hid (Blk V5 bq5 #[.int .i64 la4, .int .i64 ne4, .slice ha4 hn4 hc4, .slice oa4 on4 oc4, .int .i64 fi4, .slice ga4 1 gc4, .slice pa4 pn4 pc4] 34) := by rw [hbq5]; exact Blk.newE hV5
      have KP3 : Hid (Blk V5 bq3 #[.int .i64 131073, .int .i64 ne3, .slice ha3 hn3 hc3, .slice oa3 on3 oc3, .int .i64 fi3, .slice ga3 2 gc3, .slice pa3 pn3 pc3] 34) := by rw [hV5]; exact KP3'.out.below ((Below.refl _ _).alloc (Nat.le_refl _) _) KP3'.out.lt
      have TR3 : Hid (TrIn (fun _ => True) V5 (.slice ha3 hn3 hc3) (.slice oa3 on3 oc3) (.slice ga3 2 gc3) (.slice pa3 pn3 pc3) tb3) := by rw [hV5]; exact TR3'.out.to (SameOn.alloc _) fun _ _ h => h
      have BV5 : Hid (Below w.heap.size w V5) := by rw [hV5]; exact BW5.out.alloc BW5.out.size _
      obtain ⟨x0, x1, x2, x3, x4, x5, x6⟩ := KP3'.out.sevenc
      have hb3 := KP3'.out.lt
      clear KP3' TR3' BW5
      go_wp2_with fail
      rw [← hV5]
      try rw [← hbq5]
      clear hV5 hbq5 x0 x1 x2 x3 x4 x5 x6 hb3
      refine (HC.out V5 TR3.out).mono ?_
      rintro e w6 ⟨rfl, c6⟩
      have BW6 : Hid (Below w.heap.size w w6) := BV5.out.trans (c6.mono BV5.out.size)
      obtain ⟨x0, x1, x2, x3, x4, x5, x6⟩ := (KP3.out.below c6 KP3.out.lt).sevenc
      obtain ⟨y0, y1, y2, y3, y4, y5, y6⟩ := (KP5.out.below c6 KP5.out.lt).sevenc
      clear c6 BV5 KP3 KP5 TR3 HC
      go_wp2
      go_ret
      exact ⟨rfl, BW6.out⟩

end Go.Proofs.Ytnpaejknoipicag

namespace Go.Proofs.Ytnpaejknoipicag
open Go.RowKit

theorem gchk_first {l : List Fr} (h : gchk l = 0) : 0 < l.length ∧ l.length ≤ 6 ∧ (frAt l 0).key = true := by
  obtain ⟨h1, h2, h3⟩ := gchk_zero.1 h
  refine ⟨h1, h2, ?_⟩
  have := (h3 0 h1).2
  simpa [inPl] using this
theorem FrsIn.first {S : Nat → Prop} {w : World} {ao : Option Addr} {n c : Nat} {l : List Fr} (h : FrsIn S w (.slice ao n c) l) (h0 : 0 < l.length) : ∃ b off, ao = some ⟨b, off, none⟩ ∧ w.cell? ⟨b, off, none⟩ = some (.int .i64 (frAt l 0).time) ∧ w.cell? ⟨b, off + 1, none⟩ = some (.bool (frAt l 0).key) := by
  obtain ⟨ao', c', e, _, _, hc⟩ := h
  injection e with e1 _ _
  subst e1
  obtain ⟨b, off, e, _, _, pv, c0, c1, _⟩ := hc 0 h0
  exact ⟨b, off, e, by simpa using c0, by simpa using c1⟩
theorem grAt_mem {L : List (List Fr)} {k : Nat} (h : k < L.length) : grAt L k ∈ L := by
  unfold grAt; rw [List.getElem?_eq_getElem h]; exact List.getElem_mem _

end Go.Proofs.Ytnpaejknoipicag

namespace Go.Proofs.Ytnpaejknoipicag
open Go.RowKit Go.Sort

set_option maxHeartbeats 1600000 in
theorem sameGroups_any (S S' : Nat → Prop) (u v : Value) (l m : List (List Fr)) (w : World) (hu : GrsIn S w u l) (hv : GrsIn S' w v m) :
    Calls Try.prog 39 #[u, v] w fun e w' => e = .returned (.bool (sameGs l m)) ∧ Below w.heap.size w w' := by
  obtain ⟨ao, c, rfl, hl1, hl2, hc⟩ := hu
  obtain ⟨bo, d, rfl, hm1, hm2, hd⟩ := hv
  by_cases hlm : l.length = m.length
  · have HC : Hid (∀ k, k < l.length → ∃ b off, ao = some ⟨b, off, none⟩ ∧ b < w.heap.size ∧ S b ∧ ∃ sv, w.cell? ⟨b, off + k, none⟩ = some sv ∧ FrsIn S w sv (l[k]?.getD [])) := hc
    have HD : Hid (∀ k, k < m.length → ∃ b off, bo = some ⟨b, off, none⟩ ∧ b < w.heap.size ∧ S' b ∧ ∃ sv, w.cell? ⟨b, off + k, none⟩ = some sv ∧ FrsIn S' w sv (m[k]?.getD [])) := hd
    obtain ⟨n, hn⟩ : ∃ n, n = l.length := ⟨_, rfl⟩
    have HN : Hid (n = l.length) := hn
    have HM : Hid (n = m.length) := hn.trans hlm
    rw [← hlm, ← hn]
    rw [← hlm] at hm1
    rw [← hn] at hl1 hm1
    clear hc hd hn hlm
    go_enter Try.func39, Try.ntmps39
    go_wp2
    go_loopw [5] (fun i wr => ∃ k : Nat, k ≤ n ∧ i = .int .i64 k ∧ Hid (∀ j, j < k → (l[j]?.getD []) = (m[j]?.getD [])) ∧ Hid (Below w.heap.size w wr))
      (fun i _ => n - (intOf i).toNat)
    case atStart => exact ⟨0, Nat.zero_le _, rfl, (show ∀ j, j < 0 → _ from fun j hj => absurd hj (Nat.not_lt_zero _)), Below.refl _ _⟩
    case round =>
      obtain ⟨k, hk, rfl, HK, HB⟩ := hrel
      by_cases hlt : k < n
      · obtain ⟨b, off, rfl, hb, _, sv, c0, hs⟩ := HC.out k (by rw [← HN.out]; exact hlt)
        obtain ⟨b2, off2, rfl, hb2, _, sv2, d0, hs2⟩ := HD.out k (by rw [← HM.out]; exact hlt)
        obtain ⟨x, hx⟩ : ∃ x, x = l[k]?.getD [] := ⟨_, rfl⟩
        obtain ⟨y, hy⟩ : ∃ y, y = m[k]?.getD [] := ⟨_, rfl⟩
        rw [← hx] at hs
        rw [← hy] at hs2
        have HX : Hid (x = l[k]?.getD []) := hx
        have HY : Hid (y = m[k]?.getD []) := hy
        have c1 := (HB.out.cell (p := ⟨b, off + k, none⟩) hb).trans c0
        have d1 := (HB.out.cell (p := ⟨b2, off2 + k, none⟩) hb2).trans d0
        obtain ⟨a1, a2, rfl, _, hxl⟩ := hs.len
        obtain ⟨b3, b4, rfl, _, _⟩ := hs2.len
        have f1 := (hs.below HB.out).frs
        have f2 := (hs2.below HB.out).frs
        obtain ⟨t, ht⟩ : ∃ t, t = sameFs x y := ⟨_, rfl⟩
        have HT : Hid (t = sameFs x y) := ht
        have cF : ∀ d os, Calls Try.prog 40 #[.slice a1 x.length a2, .slice b3 y.length b4] (grow (redrawn wr d) os) fun e w'' => e = .returned (.bool t) ∧ ∃ p : Regrown, w'' = grow (redrawn wr p.d) p.os := fun d os =>
          Calls.regrown_of (by
            rw [ht]
            exact sameFrames_any _ _ _ _ _ (f1.below (below_regrown wr d os)) (f2.below (below_regrown wr d os)) hxl)
        have z0 := cell_regrown c1
        have q0 := cell_regrown d1
        have hlti : (k : Int) < (n : Int) := by omega
        clear hx hy ht c0 c1 d0 d1 hs hs2 f1 f2
        go_wp2
        refine wp_region_quiet_below (by kernel_rfl) (by kernel_rfl) ?_
        repeat (quiet_step (exact cF _ _))
        refine wpQuiet_nil ?_
        intro _ hw'
        obtain ⟨⟨dq, osq⟩, hw''⟩ := hw'
        subst hw''
        have bR := below_regrown wr dq osq
        obtain ⟨V, hV⟩ : ∃ V, V = grow (redrawn wr dq) osq := ⟨_, rfl⟩
        rw [← hV] at bR
        have bV : Hid (Below w.heap.size w V) := HB.out.trans (bR.mono HB.out.size)
        rw [← hV]
        clear hV bR cF q0 z0
        cases t
        · go_wp2
          go_ret
          exact ⟨by rw [sameGs_at (k := k) (fun e => by rw [← HX.out, ← HY.out] at e; have := HT.out; rw [e] at this; simp [sameFs] at this)]; rfl, bV.out⟩
        · go_wp2
          go_roundw
          case rel =>
            refine ⟨k + 1, by omega, by go_num, (show ∀ j, j < k + 1 → _ from fun j hj => ?_), bV.out⟩
            by_cases e : j = k
            · subst e
              rw [← HX.out, ← HY.out]; exact of_decide_eq_true HT.out.symm
            · exact HK.out j (by omega)
          case measure => simp [intOf]; omega
      · have hkl : k = n := by omega
        subst hkl
        go_wp2
        go_ret
        exact ⟨by rw [sameGs_ext (HN.out.symm.trans HM.out) (fun j hj => HK.out j (by rw [HN.out]; exact hj))]; rfl, HB.out⟩
  · have hlm2 : ((l.length : Int) != (m.length : Int)) = true := by simp; omega
    have HLM : Hid (¬ l.length = m.length) := hlm
    clear hlm
    go_enter Try.func39, Try.ntmps39
    go_wp2
    go_ret
    exact ⟨by rw [sameGs_len HLM.out]; rfl, Below.refl _ _⟩

end Go.Proofs.Ytnpaejknoipicag

namespace Go.Proofs.Ytnpaejknoipicag
open Go.RowKit

def sameSt (f f' : Int) (L L' : List (List Fr)) (O O' : List Fr) : Bool := decide (f = f') && (sameGs L L' && sameFs O O')
theorem sameSt_self (f : Int) (L : List (List Fr)) (O : List Fr) : sameSt f f L L O O = true := by simp [sameSt, sameGs, sameFs]

set_option maxHeartbeats 2000000 in
set_option maxRecDepth 100000 in
theorem sameStore_any (f f' : Int) (gv ov gv' ov' : Value) (L L' : List (List Fr)) (O O' : List Fr) (w : World) (hg : GrsIn (fun _ => True) w gv L) (ho : FrsIn (fun _ => True) w ov O) (hg' : GrsIn (fun _ => True) w gv' L') (ho' : FrsIn (fun _ => True) w ov' O') :
    Calls Try.prog 23 #[.agg #[.int .i64 f, gv, ov], .agg #[.int .i64 f', gv', ov']] w fun e w' => e = .returned (.bool (sameSt f f' L L' O O')) ∧ Below w.heap.size w w' := by
  obtain ⟨ga, gc, eg, _, _⟩ := hg.len
  obtain ⟨oa, oc, eo, _, hol⟩ := ho.len
  obtain ⟨ga', gc', eg', _, _⟩ := hg'.len
  obtain ⟨oa', oc', eo', _, _⟩ := ho'.len
  obtain ⟨ln, hln⟩ : ∃ n, n = L.length := ⟨_, rfl⟩
  obtain ⟨lo, hlo⟩ : ∃ n, n = O.length := ⟨_, rfl⟩
  obtain ⟨ln', hln'⟩ : ∃ n, n = L'.length := ⟨_, rfl⟩
  obtain ⟨lo', hlo'⟩ : ∃ n, n = O'.length := ⟨_, rfl⟩
  rw [← hln] at eg
  rw [← hlo] at eo
  rw [← hln'] at eg'
  rw [← hlo'] at eo'
  obtain ⟨X, hX⟩ : ∃ X, X = sameGs L L' := ⟨_, rfl⟩
  obtain ⟨Y, hY⟩ : ∃ Y, Y = sameFs O O' := ⟨_, rfl⟩
  obtain ⟨R, hR⟩ : ∃ R, R = sameSt f f' L L' O O' := ⟨_, rfl⟩
  have HR : Hid (R = (decide (f = f') && (X && Y))) := by show _ = _; rw [hR, hX, hY]; rfl
  have HX : Hid (∀ U, Below w.heap.size w U → Calls Try.prog 39 #[gv, gv'] U fun e w' => e = .returned (.bool X) ∧ Below U.heap.size U w') := fun U hU => by
    rw [hX]; exact sameGroups_any _ _ _ _ _ _ U (hg.below hU) (hg'.below hU)
  have HY : Hid (∀ U, Below w.heap.size w U → Calls Try.prog 40 #[ov, ov'] U fun e w' => e = .returned (.bool Y) ∧ Below U.heap.size U w') := fun U hU => by
    rw [hY]; exact sameFrames_any _ _ _ _ U (ho.below hU).frs (ho'.below hU).frs hol
  rw [← hR]
  clear hg ho hg' ho' hX hY hR hln hlo hln' hlo' hol
  subst eg eo eg' eo'
  go_enter Try.func23, Try.ntmps23
  obtain ⟨W0, hW0⟩ : ∃ W0, W0 = (w.alloc (.cells #[.int .i64 f, .slice ga ln gc, .slice oa lo oc] 32)).alloc (.cells #[.int .i64 f', .slice ga' ln' gc', .slice oa' lo' oc'] 32) := ⟨_, rfl⟩
  have HS0 : Hid (Stay W0 (fun U => Blk U w.heap.size #[.int .i64 f, .slice ga ln gc, .slice oa lo oc] 32 ∧ Blk U (w.heap.size + 1) #[.int .i64 f', .slice ga' ln' gc', .slice oa' lo' oc'] 32 ∧ Below w.heap.size w U)) := by
    have k2 := Blk.newE hW0
    simp only [World.size_alloc] at k2
    have hb : Below w.heap.size w W0 := by rw [hW0]; exact ((Below.refl _ _).alloc (Nat.le_refl _) _).alloc (by simp) _
    exact (show Blk W0 w.heap.size _ _ by rw [hW0]; exact (Blk.new _ _ _).alloc _).stay.and (k2.stay.and (below_stay hb hb.size))
  by_cases hf : f = f'
  · subst hf
    have HR2 : Hid (R = (X && Y)) := by show _ = _; rw [HR.out]; simp
    go_wp2_with fail
    rw [← hW0]
    clear hW0
    refine (HX.out _ HS0.out.now.2.2).mono ?_
    rintro e w1 ⟨rfl, b1⟩
    have HS1 := Stay.go HS0 b1
    obtain ⟨k0, k1, k2⟩ := HS1.out.now.1.three
    obtain ⟨j0, j1, j2⟩ := HS1.out.now.2.1.three
    clear b1 HS0
    cases X
    · have hr : R = false := HR2.out
      subst hr
      go_wp2_with fail
      go_ret
      exact ⟨rfl, HS1.out.now.2.2⟩
    · have hr : R = Y := by rw [HR2.out]; rfl
      subst hr
      go_wp2_with fail
      refine (HY.out _ HS1.out.now.2.2).mono ?_
      rintro e w2 ⟨rfl, b2⟩
      have HS2 := Stay.go HS1 b2
      clear b2 HS1
      go_wp2_with fail
      go_ret
      exact ⟨rfl, HS2.out.now.2.2⟩
  · have hr : R = false := by rw [HR.out]; simp [hf]
    subst hr
    have hb := HS0.out.now.2.2
    subst hW0
    go_wp2_with fail
    go_ret
    exact ⟨rfl, hb⟩

end Go.Proofs.Ytnpaejknoipicag

namespace Go.Proofs.Ytnpaejknoipicag
open Go.RowKit

def sameTr (t u : Tr) : Bool := (t.last == u.last) && ((t.next == u.next && sameB t.h u.h) && (sameB t.o u.o && sameSt t.first u.first t.L u.L t.O u.O))

set_option maxHeartbeats 8000000 in
set_option maxRecDepth 100000 in
theorem sameTrack_any (t u : Tr) (hv bv gv ov hv' bv' gv' ov' : Value) (w : World) (hr : TrIn (fun _ => True) w hv bv gv ov t) (hr' : TrIn (fun _ => True) w hv' bv' gv' ov' u) :
    Calls Try.prog 9 #[.agg #[.int .i64 t.last, .int .i64 t.next, hv, bv, .int .i64 t.first, gv, ov], .agg #[.int .i64 u.last, .int .i64 u.next, hv', bv', .int .i64 u.first, gv', ov']] w fun e w' => e = .returned (.bool (sameTr t u)) ∧ Below w.heap.size w w' := by
  obtain ⟨ha, hc, ba', bc, ga, gc, oa, oc, eh, eb, eg, eo⟩ := hr.slices
  obtain ⟨ha2, hc2, ba2, bc2, ga2, gc2, oa2, oc2, eh2, eb2, eg2, eo2⟩ := hr'.slices
  obtain ⟨B0, hB0⟩ : ∃ b, b = (t.last == u.last) := ⟨_, rfl⟩
  obtain ⟨B1, hB1⟩ : ∃ b, b = (t.next == u.next && sameB t.h u.h) := ⟨_, rfl⟩
  obtain ⟨B2, hB2⟩ : ∃ b, b = sameB t.o u.o := ⟨_, rfl⟩
  obtain ⟨B3, hB3⟩ : ∃ b, b = sameSt t.first u.first t.L u.L t.O u.O := ⟨_, rfl⟩
  have H1 : Hid (∀ U, Below w.heap.size w U → Calls Try.prog 21 #[.agg #[.int .i64 t.next, hv], .agg #[.int .i64 u.next, hv']] U fun e w' => e = .returned (.bool B1) ∧ Below U.heap.size U w') := fun U hU => by rw [hB1]; exact sameBuffer_any _ _ hv hv' t.h u.h U (hr.1.1.below hU) (hr'.1.1.below hU) hr.1.2.1
  have H2 : Hid (∀ U, Below w.heap.size w U → Calls Try.prog 22 #[bv, bv'] U fun e w' => e = .returned (.bool B2) ∧ Below U.heap.size U w') := fun U hU => by rw [hB2]; exact sameSlots_any bv bv' t.o u.o U (hr.2.1.1.below hU) (hr'.2.1.1.below hU) hr.2.1.2.1
  have H3 : Hid (∀ U, Below w.heap.size w U → Calls Try.prog 23 #[.agg #[.int .i64 t.first, gv, ov], .agg #[.int .i64 u.first, gv', ov']] U fun e w' => e = .returned (.bool B3) ∧ Below U.heap.size U w') := fun U hU => by rw [hB3]; exact sameStore_any _ _ gv ov gv' ov' t.L u.L t.O u.O U (hr.2.2.1.below hU) (hr.2.2.2.below hU) (hr'.2.2.1.below hU) (hr'.2.2.2.below hU)
  have HR : Hid (sameTr t u = (B0 && (B1 && (B2 && B3)))) := by show _ = _; rw [hB0, hB1, hB2, hB3]; rfl
  obtain ⟨R, hR⟩ : ∃ R, R = sameTr t u := ⟨_, rfl⟩
  rw [← hR] at HR ⊢
  obtain ⟨nh, hnh⟩ : ∃ n, n = t.h.length := ⟨_, rfl⟩
  obtain ⟨no, hno⟩ : ∃ n, n = t.o.length := ⟨_, rfl⟩
  obtain ⟨ng, hng⟩ : ∃ n, n = t.L.length := ⟨_, rfl⟩
  obtain ⟨nO, hnO⟩ : ∃ n, n = t.O.length := ⟨_, rfl⟩
  obtain ⟨mh, hmh⟩ : ∃ n, n = u.h.length := ⟨_, rfl⟩
  obtain ⟨mo, hmo⟩ : ∃ n, n = u.o.length := ⟨_, rfl⟩
  obtain ⟨mg, hmg⟩ : ∃ n, n = u.L.length := ⟨_, rfl⟩
  obtain ⟨mO, hmO⟩ : ∃ n, n = u.O.length := ⟨_, rfl⟩
  rw [← hnh] at eh
  rw [← hno] at eb
  rw [← hng] at eg
  rw [← hnO] at eo
  rw [← hmh] at eh2
  rw [← hmo] at eb2
  rw [← hmg] at eg2
  rw [← hmO] at eo2
  obtain ⟨last, hla⟩ : ∃ x, x = t.last := ⟨_, rfl⟩
  obtain ⟨next, hne⟩ : ∃ x, x = t.next := ⟨_, rfl⟩
  obtain ⟨first, hfi⟩ : ∃ x, x = t.first := ⟨_, rfl⟩
  obtain ⟨last2, hla2⟩ : ∃ x, x = u.last := ⟨_, rfl⟩
  obtain ⟨next2, hne2⟩ : ∃ x, x = u.next := ⟨_, rfl⟩
  obtain ⟨first2, hfi2⟩ : ∃ x, x = u.first := ⟨_, rfl⟩
  rw [← hla, ← hla2] at hB0
  rw [← hla, ← hne, ← hfi, ← hla2, ← hne2, ← hfi2]
  rw [← hne, ← hne2] at H1
  rw [← hfi, ← hfi2] at H3
  have hq : (last == last2) = B0 := hB0.symm
  clear hB0 hB1 hB2 hB3 hR hr hr' hla hne hfi hla2 hne2 hfi2 hnh hno hng hnO hmh hmo hmg hmO
  subst eh eb eg eo eh2 eb2 eg2 eo2
  go_enter Try.func9, Try.ntmps9
  obtain ⟨W, hW⟩ : ∃ W, W = (w.alloc (.cells #[.int .i64 last, .int .i64 next, .slice ha nh hc, .slice ba' no bc, .int .i64 first, .slice ga ng gc, .slice oa nO oc] 34)).alloc (.cells #[.int .i64 last2, .int .i64 next2, .slice ha2 mh hc2, .slice ba2 mo bc2, .int .i64 first2, .slice ga2 mg gc2, .slice oa2 mO oc2] 34) := ⟨_, rfl⟩
  have HS0 : Hid (Stay W (fun U => (Blk U w.heap.size #[.int .i64 last, .int .i64 next, .slice ha nh hc, .slice ba' no bc, .int .i64 first, .slice ga ng gc, .slice oa nO oc] 34 ∧ Blk U (w.heap.size + 1) #[.int .i64 last2, .int .i64 next2, .slice ha2 mh hc2, .slice ba2 mo bc2, .int .i64 first2, .slice ga2 mg gc2, .slice oa2 mO oc2] 34) ∧ Below w.heap.size w U)) := by
    have k1 := (Blk.new w #[.int .i64 last, .int .i64 next, .slice ha nh hc, .slice ba' no bc, .int .i64 first, .slice ga ng gc, .slice oa nO oc] 34)
    have k2 := Blk.new (w.alloc (.cells #[.int .i64 last, .int .i64 next, .slice ha nh hc, .slice ba' no bc, .int .i64 first, .slice ga ng gc, .slice oa nO oc] 34)) #[.int .i64 last2, .int .i64 next2, .slice ha2 mh hc2, .slice ba2 mo bc2, .int .i64 first2, .slice ga2 mg gc2, .slice oa2 mO oc2] 34
    rw [← hW] at k2
    have k1' := k1.below ((Below.refl _ _).alloc (Nat.le_refl _) (.cells #[.int .i64 last2, .int .i64 next2, .slice ha2 mh hc2, .slice ba2 mo bc2, .int .i64 first2, .slice ga2 mg gc2, .slice oa2 mO oc2] 34)) k1.lt
    rw [← hW] at k1'
    simp only [World.size_alloc] at k2
    have b : Below w.heap.size w W := by rw [hW]; exact ((Below.refl _ _).alloc (Nat.le_refl _) _).alloc (by simp) _
    exact ((k1'.stay.and k2.stay).and (below_stay b b.size))
  cases hb0 : B0
  case false =>
    rw [hb0] at hq HR
    have BW := HS0.out.now.2
    rw [hW] at BW
    clear H1 H2 H3 HS0
    go_wp2
    go_ret
    rw [HR.out]
    exact ⟨rfl, BW⟩
  rw [hb0] at hq HR
  have BW : Hid (Below w.heap.size w W) := HS0.out.now.2
  go_wp2_with fail
  rw [← hW]
  clear hW
  refine (H1.out W BW.out).mono ?_
  rintro e w1 ⟨rfl, b1⟩
  have HS1 := Stay.go HS0 b1
  clear b1 HS0 BW H1
  have BW : Hid (Below w.heap.size w w1) := HS1.out.now.2
  cases hb1 : B1
  case false =>
    rw [hb1] at HR
    clear HS1 H2 H3
    go_wp2
    go_ret
    rw [HR.out]
    exact ⟨rfl, BW.out⟩
  rw [hb1] at HR
  obtain ⟨y0, y1, y2, y3, y4, y5, y6⟩ := HS1.out.now.1.1.sevenc
  obtain ⟨z0, z1, z2, z3, z4, z5, z6⟩ := HS1.out.now.1.2.sevenc
  go_wp2_with fail
  refine (H2.out w1 BW.out).mono ?_
  rintro e w2 ⟨rfl, b1⟩
  have HS2 := Stay.go HS1 b1
  clear b1 HS1 BW H2 y0 y1 y2 y3 y4 y5 y6 z0 z1 z2 z3 z4 z5 z6
  have BW : Hid (Below w.heap.size w w2) := HS2.out.now.2
  cases hb2 : B2
  case false =>
    rw [hb2] at HR
    clear HS2 H3
    go_wp2
    go_ret
    rw [HR.out]
    exact ⟨rfl, BW.out⟩
  rw [hb2] at HR
  obtain ⟨y0, y1, y2, y3, y4, y5, y6⟩ := HS2.out.now.1.1.sevenc
  obtain ⟨z0, z1, z2, z3, z4, z5, z6⟩ := HS2.out.now.1.2.sevenc
  go_wp2_with fail
  refine (H3.out w2 BW.out).mono ?_
  rintro e w3 ⟨rfl, b1⟩
  have BW3 : Hid (Below w.heap.size w w3) := BW.out.trans (b1.mono BW.out.size)
  clear b1 BW HS2 H3 y0 y1 y2 y3 y4 y5 y6 z0 z1 z2 z3 z4 z5 z6
  go_wp2
  go_ret
  rw [HR.out]
  exact ⟨by cases B3 <;> rfl, BW3.out⟩

end Go.Proofs.Ytnpaejknoipicag

namespace Go.Proofs.Ytnpaejknoipicag
open Go.RowKit

theorem Blk.sixo {w : World} {b : Nat} {x0 x1 x2 x3 x4 x5 : Value} {t : TypeId} (h : Blk w b #[x0, x1, x2, x3, x4, x5] t) : w.cell? ⟨b, 0, none⟩ = some x0 ∧ w.cell? ⟨b, 1, none⟩ = some x1 ∧ w.cell? ⟨b, 2, none⟩ = some x2 ∧ w.cell? ⟨b, 3, none⟩ = some x3 ∧ w.cell? ⟨b, 4, none⟩ = some x4 ∧ w.cell? ⟨b, 5, none⟩ = some x5 :=
  ⟨h.cell rfl, h.cell rfl, h.cell rfl, h.cell rfl, h.cell rfl, h.cell rfl⟩
theorem sameTr_refl (t : Tr) : sameTr t t = true := by simp [sameTr, (sameB_iff _ _).2 rfl, sameSt_self]
theorem tkN_le : ∀ (l : List Sk) (s : Tr × Nat), (tkN l s).2.1 ≤ s.2 + l.length
  | [], s => Nat.le_refl _
  | x :: r, s => by
    simp only [tkN]
    split
    · have := tkN_le r ((tk1 s.1 x).1, s.2 + (tk1 s.1 x).2.1)
      have := tk1_le s.1 x
      simp only [List.length_cons] at *
      omega
    · exact Nat.zero_le _
theorem feedA_le {t : Tr} {s : List UInt8} : (feedA t s).2.1 ≤ 100 := by
  unfold feedA
  by_cases h1 : t.chk = 0
  · rw [if_pos h1]
    unfold feedR
    by_cases h2 : (Pk.dec s).2 = 0
    · rw [if_pos h2]
      by_cases h3 : numE t.last (Pk.dec s).1 = 0
      · rw [if_pos h3]
        unfold feedP
        have h4 := tkN_le (putF t.next t.h ⟨numN t.last (Pk.dec s).1, (Pk.dec s).1⟩).2.2 (t.buf (max t.last (numN t.last (Pk.dec s).1)) (putF t.next t.h ⟨numN t.last (Pk.dec s).1, (Pk.dec s).1⟩).1 (putF t.next t.h ⟨numN t.last (Pk.dec s).1, (Pk.dec s).1⟩).2.1, 0)
        have h5 := put_olen (x := ⟨numN t.last (Pk.dec s).1, (Pk.dec s).1⟩) (Tr.chk_zero.1 h1).2.1
        simp only at h4
        omega
      · rw [if_neg h3]; exact Nat.zero_le _
    · rw [if_neg h2]; exact Nat.zero_le _
  · rw [if_neg h1]; exact Nat.zero_le _

set_option maxHeartbeats 16000000 in
set_option maxRecDepth 100000 in
theorem trackOrder_law (t : Tr) (ps0 pt : Int) (pf pe pk : Bool) (px : ByteArray) (qs0 qt : Int) (qf qe qk : Bool) (qx : ByteArray) (hv bv gv ov : Value) (w : World) (hr0 : TrIn (fun _ => True) w hv bv gv ov t) :
    Calls Try.prog 3 #[.agg #[.int .i64 t.last, .int .i64 t.next, hv, bv, .int .i64 t.first, gv, ov], .agg #[.int .i64 ps0, .int .i64 pt, .bool pf, .bool pe, .bool pk, .string px], .agg #[.int .i64 qs0, .int .i64 qt, .bool qf, .bool qe, .bool qk, .string qx]] w fun e w' => e = .returned (.bool true) ∧ Below w.heap.size w w' := by
  obtain ⟨sp, hsp⟩ : ∃ s, s = (t.last + 1) % 65536 := ⟨_, rfl⟩
  obtain ⟨sq, hsq⟩ : ∃ s, s = (t.last + 2) % 65536 := ⟨_, rfl⟩
  obtain ⟨bp, hbp⟩ : ∃ b, b = (Pk.mk sp pt pf pe pk px).enc := ⟨_, rfl⟩
  obtain ⟨bq, hbq⟩ : ∃ b, b = (Pk.mk sq qt qf qe qk qx).enc := ⟨_, rfl⟩
  obtain ⟨EP, hEP⟩ : ∃ e, e = (Pk.mk sp pt pf pe pk px).chk := ⟨_, rfl⟩
  obtain ⟨EQ, hEQ⟩ : ∃ e, e = (Pk.mk sq qt qf qe qk qx).chk := ⟨_, rfl⟩
  obtain ⟨A, ca, ea, hA⟩ : ∃ T cl er, feedA t bp = (T, cl, er) := ⟨_, _, _, rfl⟩
  obtain ⟨B, cb, eb, hB⟩ : ∃ T cl er, feedA A bq = (T, cl, er) := ⟨_, _, _, rfl⟩
  obtain ⟨C, cc, ec, hC⟩ : ∃ T cl er, feedA t bq = (T, cl, er) := ⟨_, _, _, rfl⟩
  obtain ⟨D, cd, ed, hD⟩ : ∃ T cl er, feedA C bp = (T, cl, er) := ⟨_, _, _, rfl⟩
  have HLE : Hid (ca ≤ 100 ∧ cb ≤ 100) := by
    have h1 := @feedA_le t bp
    have h2 := @feedA_le A bq
    rw [hA] at h1
    rw [hB] at h2
    exact ⟨h1, h2⟩
  have HORD : Hid (t.chk = 0 → ¬ t.last = 0 → t.h.length = 0 → t.next = t.last + 1 → t.last ≤ 999999998 → EP = 0 → EQ = 0 → ec = 0 ∧ cc = 0 ∧ ((ea = 0 ∧ eb = 0 ∧ ed = 0 ∧ ca + cb = cd ∧ B = D) ∨ ea = 2 ∨ eb = 2)) := fun h1 h2 h3 h4 h5 h6 h7 => by
    have q := feed_order (p := ⟨sp, pt, pf, pe, pk, px⟩) (q := ⟨sq, qt, qf, qe, qk, qx⟩) h1 h2 (List.eq_nil_of_length_eq_zero h3) h4 h5 (hEP.symm.trans h6) (hEQ.symm.trans h7) hsp hsq
    rw [← hbp, ← hbq, hA, hC] at q
    simp only at q
    rw [hB, hD] at q
    exact q
  have HBN : Hid (t.chk = 0 → ¬ t.last = 0 → 65536 ≤ t.last ∧ t.last ≤ 1000000000) := fun h1 h2 => Cn.isNB_iff.1 ((Tr.chk_zero.1 h1).1.resolve_left h2)
  have HBp : Hid (EP = 0 → ∀ W : World, Calls Try.prog 8 #[.agg #[.int .i64 sp, .int .i64 pt, .bool pf, .bool pe, .bool pk, .string px]] W fun e w' => e = .returned (.string (ba bp)) ∧ Below W.heap.size W w') := fun h W => by rw [hbp]; exact bytesOf_any _ _ _ _ _ _ W (hEP.symm.trans h)
  have HBq : Hid (EQ = 0 → ∀ W : World, Calls Try.prog 8 #[.agg #[.int .i64 sq, .int .i64 qt, .bool qf, .bool qe, .bool qk, .string qx]] W fun e w' => e = .returned (.string (ba bq)) ∧ Below W.heap.size W w') := fun h W => by rw [hbq]; exact bytesOf_any _ _ _ _ _ _ W (hEQ.symm.trans h)
  have HCP : Hid (∀ W : World, Calls Try.prog 6 #[.agg #[.int .i64 sp, .int .i64 pt, .bool pf, .bool pe, .bool pk, .string px]] W fun e w' => e = .returned (.int .i64 EP) ∧ Below W.heap.size W w') := fun W => by
    refine (refCheck_any ⟨sp, pt, pf, pe, pk, px⟩ W).mono ?_
    rintro e w' ⟨rfl, rfl⟩
    exact ⟨by rw [hEP], (Below.refl _ _).alloc (Nat.le_refl _) _⟩
  have HCQ : Hid (∀ W : World, Calls Try.prog 6 #[.agg #[.int .i64 sq, .int .i64 qt, .bool qf, .bool qe, .bool qk, .string qx]] W fun e w' => e = .returned (.int .i64 EQ) ∧ Below W.heap.size W w') := fun W => by
    refine (refCheck_any ⟨sq, qt, qf, qe, qk, qx⟩ W).mono ?_
    rintro e w' ⟨rfl, rfl⟩
    exact ⟨by rw [hEQ], (Below.refl _ _).alloc (Nat.le_refl _) _⟩
  have HCT : Hid (∀ (U : World), TrIn (fun _ => True) U hv bv gv ov t → Calls Try.prog 5 #[.agg #[.int .i64 t.last, .int .i64 t.next, hv, bv, .int .i64 t.first, gv, ov]] U fun e w' => e = .returned (.int .i64 t.chk) ∧ Below U.heap.size U w') := fun U q => trkCheck_any _ t hv bv gv ov U q
  have HFt : Hid (∀ (bb : List UInt8) (TT : Tr) (cl : Nat) (er : Int), feedA t bb = (TT, cl, er) → ∀ U : World, TrIn (fun _ => True) U hv bv gv ov t → Calls Try.prog 7 #[.agg #[.int .i64 t.last, .int .i64 t.next, hv, bv, .int .i64 t.first, gv, ov], .string (ba bb)] U fun e w' => ∃ la1 ne1 ha1 hn1 hc1 oa1 on1 oc1 fi1 ga1 gn1 gc1 pa1 pn1 pc1, e = .returned (.tuple #[.agg #[.int .i64 la1, .int .i64 ne1, .slice ha1 hn1 hc1, .slice oa1 on1 oc1, .int .i64 fi1, .slice ga1 gn1 gc1, .slice pa1 pn1 pc1], .int .i64 cl, .int .i64 er]) ∧ Hid (la1 = TT.last ∧ ne1 = TT.next ∧ fi1 = TT.first ∧ gn1 = TT.L.length) ∧ Hid (TrIn (fun g => U.heap.size ≤ g) w' (.slice ha1 hn1 hc1) (.slice oa1 on1 oc1) (.slice ga1 gn1 gc1) (.slice pa1 pn1 pc1) TT) ∧ Below U.heap.size U w') := fun bb TT cl er h U q => begFeed t TT bb cl er _ _ _ _ _ _ _ _ U h rfl rfl rfl q
  have HB : Hid (∀ U, Calls Try.prog 4 #[] U fun e w' => e = .returned (.bool true) ∧ Below U.heap.size U w') := fun U => trackBegun_any U
  obtain ⟨ha, hc, oa0, oc0, ga, gc, pa0, pc0, eh, eb0, eg, eo⟩ := hr0.slices
  have hr : TrIn (fun g => g < w.heap.size) w hv bv gv ov t := hr0.mono fun g h _ => h
  have hHL : t.h.length ≤ 9223372036854775807 := hr.1.2.1
  obtain ⟨nh, hnh⟩ : ∃ n, n = t.h.length := ⟨_, rfl⟩
  obtain ⟨no, hno⟩ : ∃ n, n = t.o.length := ⟨_, rfl⟩
  obtain ⟨ng, hng⟩ : ∃ n, n = t.L.length := ⟨_, rfl⟩
  obtain ⟨nO, hnO⟩ : ∃ n, n = t.O.length := ⟨_, rfl⟩
  rw [← hnh] at eh hHL HORD
  rw [← hno] at eb0
  rw [← hng] at eg
  rw [← hnO] at eo
  obtain ⟨last, hla⟩ : ∃ x, x = t.last := ⟨_, rfl⟩
  obtain ⟨next, hne⟩ : ∃ x, x = t.next := ⟨_, rfl⟩
  obtain ⟨first, hfi⟩ : ∃ x, x = t.first := ⟨_, rfl⟩
  obtain ⟨E, hE⟩ : ∃ x, x = t.chk := ⟨_, rfl⟩
  rw [← hla, ← hne] at HORD
  rw [← hla] at HBN hsp hsq
  rw [← hE] at HORD HBN HCT
  rw [← hla, ← hne, ← hfi] at HCT HFt ⊢
  have HSP : Hid (sp = (last + 1) % 65536 ∧ sq = (last + 2) % 65536) := ⟨hsp, hsq⟩
  have HAA : Hid (feedA t bp = (A, ca, ea) ∧ feedA A bq = (B, cb, eb) ∧ feedA t bq = (C, cc, ec) ∧ feedA C bp = (D, cd, ed)) := ⟨hA, hB, hC, hD⟩
  clear hla hne hfi hr0 hnh hno hng hnO hA hB hC hD hE hsp hsq hbp hbq hEP hEQ
  subst eh eb0 eg eo
  go_enter Try.func3, Try.ntmps3
  obtain ⟨V0, hV0⟩ : ∃ V, V = ((w.alloc (.cells #[.int .i64 last, .int .i64 next, .slice ha nh hc, .slice oa0 no oc0, .int .i64 first, .slice ga ng gc, .slice pa0 nO pc0] 34)).alloc (.cells #[.int .i64 ps0, .int .i64 pt, .bool pf, .bool pe, .bool pk, .string px] 36)).alloc (.cells #[.int .i64 qs0, .int .i64 qt, .bool qf, .bool qe, .bool qk, .string qx] 36) := ⟨_, rfl⟩
  obtain ⟨X, hX⟩ : ∃ X, X = w.heap.size := ⟨_, rfl⟩
  have HS0 : Hid (Stay V0 (fun U => ((Blk U X #[.int .i64 last, .int .i64 next, .slice ha nh hc, .slice oa0 no oc0, .int .i64 first, .slice ga ng gc, .slice pa0 nO pc0] 34 ∧ TrIn (fun g => g < X) U (.slice ha nh hc) (.slice oa0 no oc0) (.slice ga ng gc) (.slice pa0 nO pc0) t) ∧ (Blk U (X + 1) #[.int .i64 ps0, .int .i64 pt, .bool pf, .bool pe, .bool pk, .string px] 36 ∧ Blk U (X + 1 + 1) #[.int .i64 qs0, .int .i64 qt, .bool qf, .bool qe, .bool qk, .string qx] 36)) ∧ Below X w U)) := by
    have k0 := Blk.new w #[.int .i64 last, .int .i64 next, .slice ha nh hc, .slice oa0 no oc0, .int .i64 first, .slice ga ng gc, .slice pa0 nO pc0] 34
    have k1 := Blk.new (w.alloc (.cells #[.int .i64 last, .int .i64 next, .slice ha nh hc, .slice oa0 no oc0, .int .i64 first, .slice ga ng gc, .slice pa0 nO pc0] 34)) #[.int .i64 ps0, .int .i64 pt, .bool pf, .bool pe, .bool pk, .string px] 36
    have k2 := Blk.new ((w.alloc (.cells #[.int .i64 last, .int .i64 next, .slice ha nh hc, .slice oa0 no oc0, .int .i64 first, .slice ga ng gc, .slice pa0 nO pc0] 34)).alloc (.cells #[.int .i64 ps0, .int .i64 pt, .bool pf, .bool pe, .bool pk, .string px] 36)) #[.int .i64 qs0, .int .i64 qt, .bool qf, .bool qe, .bool qk, .string qx] 36
    have b : Below w.heap.size w V0 := by rw [hV0]; exact (((Below.refl _ w).alloc (Nat.le_refl _) _).alloc (by simp) _).alloc (by simp; omega) _
    have k0' := (k0.alloc (.cells #[.int .i64 ps0, .int .i64 pt, .bool pf, .bool pe, .bool pk, .string px] 36)).alloc (.cells #[.int .i64 qs0, .int .i64 qt, .bool qf, .bool qe, .bool qk, .string qx] 36)
    have k1' := k1.alloc (.cells #[.int .i64 qs0, .int .i64 qt, .bool qf, .bool qe, .bool qk, .string qx] 36)
    rw [← hV0] at k0' k1' k2
    simp only [World.size_alloc] at k1' k2
    rw [← hX] at k0' k1' k2
    have ht := hr.below b
    rw [← hX] at ht b
    exact ((k0'.stay.and ht.stay).and (k1'.stay.and k2.stay)).and (below_stay b (by rw [hX] at b ⊢; exact b.size))
  have HX : Hid (X = w.heap.size) := hX
  rw [← hX]
  clear hr
  go_wp2_with fail
  rw [← hX, ← hV0]
  clear hV0 hX
  refine (HB.out V0).mono ?_
  rintro e w1 ⟨rfl, c1⟩
  have HS1 := Stay.go HS0 c1
  clear c1 HS0 HB
  obtain ⟨y0, y1, y2, y3, y4, y5, y6⟩ := HS1.out.now.1.1.1.sevenc
  go_wp2_with fail
  refine (HCT.out w1 (HS1.out.now.1.1.2.mono fun _ _ _ => trivial)).mono ?_
  rintro e w2 ⟨rfl, c2⟩
  have HS2 := Stay.go HS1 c2
  clear c2 HS1 HCT y0 y1 y2 y3 y4 y5 y6
  obtain ⟨y0, y1, y2, y3, y4, y5, y6⟩ := HS2.out.now.1.1.1.sevenc
  have BW : Hid (Below X w w2) := HS2.out.now.2
  by_cases hE : E = 0
  case neg =>
    clear HORD HBN HBp HBq HCP HCQ HFt HAA HLE HS2 HSP
    go_wp2
    go_ret
    exact ⟨rfl, BW.out⟩
  by_cases hl0 : last = 0
  case pos =>
    clear HORD HBN HBp HBq HCP HCQ HFt HAA HLE HS2 HSP
    subst hE hl0
    go_wp2
    go_ret
    exact ⟨rfl, BW.out⟩
  obtain ⟨hl1, hl2⟩ := HBN.out hE hl0
  have hlb : (last == 0) = false := by simpa using hl0
  by_cases hn0 : 0 < nh
  case pos =>
    have hn0' : (0 : Int) < (nh : Int) := by omega
    clear HORD HBN HBp HBq HCP HCQ HFt HAA HLE HS2 HSP
    subst hE
    go_wp2
    go_ret
    exact ⟨rfl, BW.out⟩
  have hn1 : nh = 0 := by omega
  by_cases hnx : next = last + 1
  case neg =>
    clear HORD HBN HBp HBq HCP HCQ HFt HAA HLE HS2 HSP
    subst hE hn1
    go_wp2
    go_ret
    exact ⟨rfl, BW.out⟩
  by_cases hlm : 999999998 < last
  case pos =>
    clear HORD HBN HBp HBq HCP HCQ HFt HAA HLE HS2 HSP
    subst hE hn1 hnx
    go_wp2
    go_ret
    exact ⟨rfl, BW.out⟩
  have HORD2 : Hid (EP = 0 → EQ = 0 → ec = 0 ∧ cc = 0 ∧ ((ea = 0 ∧ eb = 0 ∧ ed = 0 ∧ ca + cb = cd ∧ B = D) ∨ ea = 2 ∨ eb = 2)) := HORD.out hE hl0 hn1 hnx (by omega)
  clear HORD HBN
  subst hE hn1
  obtain ⟨z0, z1, z2, z3, z4, z5⟩ := HS2.out.now.1.2.1.sixo
  obtain ⟨x0, x1, x2, x3, x4, x5⟩ := HS2.out.now.1.2.2.sixo
  go_upto_region 5 with fail
  clear y0 y1 y2 y3 y4 y5 y6 z0 z1 z2 z3 z4 z5 x0 x1 x2 x3 x4 x5
  have hw1 : IntKind.i64.wrap (last + 1) = last + 1 := by rw [IntKind.wrap_i64]; omega
  have hw2 : IntKind.i64.wrap (last + 2) = last + 2 := by rw [IntKind.wrap_i64]; omega
  have hr1 : (last + 1).tmod 65536 = sp := by rw [HSP.out.1, Int.tmod_eq_emod_of_nonneg (by omega)]
  have hr2 : (last + 2).tmod 65536 = sq := by rw [HSP.out.2, Int.tmod_eq_emod_of_nonneg (by omega)]
  refine region_chainG (by kernel_rfl) (by kernel_rfl) [.quiet (.pointer (some ⟨X, 0, none⟩)) 2, .quiet (.int .i64 last) 2, .quiet (.int .i64 (last + 1)) 2, .quiet (.int .i64 sp) 2, .quiet (.pointer (some ⟨X, 0, none⟩)) 2, .quiet (.int .i64 last) 2, .quiet (.int .i64 (last + 2)) 2, .quiet (.int .i64 sq) 2, .quiet (.pointer (some ⟨X + 1, 0, none⟩)) 2, .step 0, .quiet (.pointer (some ⟨X + 1 + 1, 0, none⟩)) 2, .step 1] [9, 11] (by kernel_rfl)
    (fun s r w' => match s with
      | 0 => Kept [X + 1, X + 1 + 1] w2 w' ∧ Blk w' (X + 1) #[.int .i64 ps0, .int .i64 pt, .bool pf, .bool pe, .bool pk, .string px] 36 ∧ Blk w' (X + 1 + 1) #[.int .i64 qs0, .int .i64 qt, .bool qf, .bool qe, .bool qk, .string qx] 36
      | 1 => Kept [X + 1, X + 1 + 1] w2 w' ∧ Blk w' (X + 1) #[.int .i64 sp, .int .i64 pt, .bool pf, .bool pe, .bool pk, .string px] 36 ∧ Blk w' (X + 1 + 1) #[.int .i64 qs0, .int .i64 qt, .bool qf, .bool qe, .bool qk, .string qx] 36
      | _ => Kept [X + 1, X + 1 + 1] w2 w' ∧ Blk w' (X + 1) #[.int .i64 sp, .int .i64 pt, .bool pf, .bool pe, .bool pk, .string px] 36 ∧ Blk w' (X + 1 + 1) #[.int .i64 sq, .int .i64 qt, .bool qf, .bool qe, .bool qk, .string qx] 36
      ) ⟨(Kept.refl _ _).drew, HS2.out.now.1.2.1.drew, HS2.out.now.1.2.2.drew⟩ ?step ?fin
  case step =>
    intro i o ho a' w' s r hI hfree hvals
    have hK : Kept [X + 1, X + 1 + 1] w2 w' := by
      match s, hI with
      | 0, hI => exact hI.1
      | 1, hI => exact hI.1
      | n + 2, hI => exact hI.1
    have y0 := (HS2.out.now.1.1.1.kept hK (by simp; omega)).cell (j := 0) (u := .int .i64 last) rfl
    have ec1 : a'.eval (.const (.int .i64 1)) = .int .i64 1 := rfl
    have ec2 : a'.eval (.const (.int .i64 2)) = .int .i64 2 := rfl
    have ec6 : a'.eval (.const (.int .i64 65536)) = .int .i64 65536 := rfl
    match i, ho with
    | 0, ho =>
      simp at ho; subst ho
      have e3 : a'.eval (.tmp 3) = .pointer (some ⟨X, 0, none⟩) := (hfree 3 (by kernel_rfl)).trans rfl
      show s ≤ 2 → _
      intro hs
      refine .inl ⟨rfl, ?_⟩
      generalize a'.eval = ρ at *
      simp [execOp, go_sem, e3]
    | 1, ho =>
      simp at ho; subst ho
      have e50 : a'.eval (.tmp 50) = .pointer (some ⟨X, 0, none⟩) := hvals 0 _ _ (by kernel_rfl) rfl rfl
      show s ≤ 2 → _
      intro hs
      refine .inl ⟨rfl, ?_⟩
      generalize a'.eval = ρ at *
      simp [execOp, go_sem, e50, y0]
    | 2, ho =>
      simp at ho; subst ho
      have e51 : a'.eval (.tmp 51) = .int .i64 last := hvals 1 _ _ (by kernel_rfl) rfl rfl
      show s ≤ 2 → _
      intro hs
      refine .inl ⟨rfl, ?_⟩
      generalize a'.eval = ρ at *
      simp [execOp, go_sem, e51, ec1, hw1]
    | 3, ho =>
      simp at ho; subst ho
      have e52 : a'.eval (.tmp 52) = .int .i64 (last + 1) := hvals 2 _ _ (by kernel_rfl) rfl rfl
      show s ≤ 2 → _
      intro hs
      refine .inl ⟨rfl, ?_⟩
      generalize a'.eval = ρ at *
      simp [execOp, go_sem, e52, ec6, hr1]
    | 4, ho =>
      simp at ho; subst ho
      have e3 : a'.eval (.tmp 3) = .pointer (some ⟨X, 0, none⟩) := (hfree 3 (by kernel_rfl)).trans rfl
      show s ≤ 2 → _
      intro hs
      refine .inl ⟨rfl, ?_⟩
      generalize a'.eval = ρ at *
      simp [execOp, go_sem, e3]
    | 5, ho =>
      simp at ho; subst ho
      have e54 : a'.eval (.tmp 54) = .pointer (some ⟨X, 0, none⟩) := hvals 4 _ _ (by kernel_rfl) rfl rfl
      show s ≤ 2 → _
      intro hs
      refine .inl ⟨rfl, ?_⟩
      generalize a'.eval = ρ at *
      simp [execOp, go_sem, e54, y0]
    | 6, ho =>
      simp at ho; subst ho
      have e55 : a'.eval (.tmp 55) = .int .i64 last := hvals 5 _ _ (by kernel_rfl) rfl rfl
      show s ≤ 2 → _
      intro hs
      refine .inl ⟨rfl, ?_⟩
      generalize a'.eval = ρ at *
      simp [execOp, go_sem, e55, ec2, hw2]
    | 7, ho =>
      simp at ho; subst ho
      have e56 : a'.eval (.tmp 56) = .int .i64 (last + 2) := hvals 6 _ _ (by kernel_rfl) rfl rfl
      show s ≤ 2 → _
      intro hs
      refine .inl ⟨rfl, ?_⟩
      generalize a'.eval = ρ at *
      simp [execOp, go_sem, e56, ec6, hr2]
    | 8, ho =>
      simp at ho; subst ho
      have e4 : a'.eval (.tmp 4) = .pointer (some ⟨X + 1, 0, none⟩) := (hfree 4 (by kernel_rfl)).trans rfl
      show s ≤ 2 → _
      intro hs
      refine .inl ⟨rfl, ?_⟩
      generalize a'.eval = ρ at *
      simp [execOp, go_sem, e4]
    | 9, ho =>
      simp at ho; subst ho
      have e58 : a'.eval (.tmp 58) = .pointer (some ⟨X + 1, 0, none⟩) := hvals 8 _ _ (by kernel_rfl) rfl rfl
      have e53 : a'.eval (.tmp 53) = .int .i64 sp := hvals 3 _ _ (by kernel_rfl) rfl rfl
      show s = 0 → _ ∧ Oper.wp _ _ _ _ _ _
      intro hs
      subst hs
      refine ⟨rfl, ?_⟩
      obtain ⟨hK2, hp, hq⟩ := hI
      obtain ⟨t0, t1, t2, t3, t4, t5⟩ := hp.sixo
      have fr := hp.free
      refine oper_wp_skip (w' := w'.setCell ⟨X + 1, 0, none⟩ (.int .i64 sp)) ?_ ⟨_, rfl, hK2.setCell (p := ⟨X + 1, 0, none⟩) (by simp) _, hp.set 0 (.int .i64 sp), hq.other (a := ⟨X + 1, 0, none⟩) (by simp) _⟩
      generalize a'.eval = ρ at *
      simp [execOp, go_sem, e58, e53, t0, fr]
    | 10, ho =>
      simp at ho; subst ho
      have e5 : a'.eval (.tmp 5) = .pointer (some ⟨X + 1 + 1, 0, none⟩) := (hfree 5 (by kernel_rfl)).trans rfl
      show s ≤ 2 → _
      intro hs
      refine .inl ⟨rfl, ?_⟩
      generalize a'.eval = ρ at *
      simp [execOp, go_sem, e5]
    | 11, ho =>
      simp at ho; subst ho
      have e59 : a'.eval (.tmp 59) = .pointer (some ⟨X + 1 + 1, 0, none⟩) := hvals 10 _ _ (by kernel_rfl) rfl rfl
      have e57 : a'.eval (.tmp 57) = .int .i64 sq := hvals 7 _ _ (by kernel_rfl) rfl rfl
      show s = 1 → _ ∧ Oper.wp _ _ _ _ _ _
      intro hs
      subst hs
      refine ⟨rfl, ?_⟩
      obtain ⟨hK2, hp, hq⟩ := hI
      obtain ⟨t0, t1, t2, t3, t4, t5⟩ := hq.sixo
      have fr := hq.free
      refine oper_wp_skip (w' := w'.setCell ⟨X + 1 + 1, 0, none⟩ (.int .i64 sq)) ?_ ⟨_, rfl, hK2.setCell (p := ⟨X + 1 + 1, 0, none⟩) (by simp) _, hp.other (a := ⟨X + 1 + 1, 0, none⟩) (by simp) _, hq.set 0 (.int .i64 sq)⟩
      generalize a'.eval = ρ at *
      simp [execOp, go_sem, e59, e57, t0, fr]
  case fin =>
    rintro r W5 ⟨hK5, hp5, hq5⟩
    simp only [putC, Ck.out, Act.put, List.setIfInBounds_toArray, List.set_cons_succ, List.set_cons_zero]
  
    have ht5 : TrIn (fun g => g < X) W5 (.slice ha 0 hc) (.slice oa0 no oc0) (.slice ga ng gc) (.slice pa0 nO pc0) t := HS2.out.now.1.1.2.to (hK5.sameOn (fun g hg => by simp; omega)) (fun _ _ h => h)
    have hx5 := HS2.out.now.1.1.1.kept hK5 (by simp; omega)
    have hb5 : Below X w W5 := HS2.out.now.2.trans (hK5.toBelow (by have := HS2.out.now.1.1.1.lt; omega) (by simp; omega))
    have hX5 : X ≤ W5.heap.size := Nat.le_of_lt hx5.lt
    have HS5 : Hid (Stay W5 (fun U => ((Blk U X #[.int .i64 last, .int .i64 next, .slice ha 0 hc, .slice oa0 no oc0, .int .i64 first, .slice ga ng gc, .slice pa0 nO pc0] 34 ∧ TrIn (fun g => g < X) U (.slice ha 0 hc) (.slice oa0 no oc0) (.slice ga ng gc) (.slice pa0 nO pc0) t) ∧ (Blk U (X + 1) #[.int .i64 sp, .int .i64 pt, .bool pf, .bool pe, .bool pk, .string px] 36 ∧ Blk U (X + 1 + 1) #[.int .i64 sq, .int .i64 qt, .bool qf, .bool qe, .bool qk, .string qx] 36)) ∧ Below X w U)) := ((hx5.stay.and ht5.stay).and (hp5.stay.and hq5.stay)).and (below_stay hb5 hX5)
    clear HS2 BW hw1 hw2 hr1 hr2 hK5 hp5 hq5 ht5 hx5 hb5 hX5 HSP hl1 hl2 hn0 hnx hlm
    obtain ⟨z0, z1, z2, z3, z4, z5⟩ := HS5.out.now.1.2.1.sixo
    go_wp2_with fail
    refine (HCP.out W5).mono ?_
    rintro e w6 ⟨rfl, c6⟩
    have HS6 := Stay.go HS5 c6
    clear c6 HS5 HCP z0 z1 z2 z3 z4 z5
    have BW : Hid (Below X w w6) := HS6.out.now.2
    by_cases hep : EP = 0
    case neg =>
      clear HORD2 HBp HBq HCQ HFt HAA HLE HS6
      go_wp2
      go_ret
      exact ⟨rfl, BW.out⟩
    obtain ⟨x0, x1, x2, x3, x4, x5⟩ := HS6.out.now.1.2.2.sixo
    subst hep
    go_wp2_with fail
    refine (HCQ.out w6).mono ?_
    rintro e w7 ⟨rfl, c7⟩
    have HS7 := Stay.go HS6 c7
    clear c7 HS6 HCQ x0 x1 x2 x3 x4 x5 BW
    have BW : Hid (Below X w w7) := HS7.out.now.2
    by_cases heq : EQ = 0
    case neg =>
      clear HORD2 HBp HBq HFt HAA HLE HS7
      go_wp2
      go_ret
      exact ⟨rfl, BW.out⟩
    have HO : Hid (ec = 0 ∧ cc = 0 ∧ ((ea = 0 ∧ eb = 0 ∧ ed = 0 ∧ ca + cb = cd ∧ B = D) ∨ ea = 2 ∨ eb = 2)) := HORD2.out (by first | rfl | trivial) heq
    have HBP : Hid (∀ W : World, Calls Try.prog 8 #[.agg #[.int .i64 sp, .int .i64 pt, .bool pf, .bool pe, .bool pk, .string px]] W fun e w' => e = .returned (.string (ba bp)) ∧ Below W.heap.size W w') := HBp.out (by first | rfl | trivial)
    have HBQ : Hid (∀ W : World, Calls Try.prog 8 #[.agg #[.int .i64 sq, .int .i64 qt, .bool qf, .bool qe, .bool qk, .string qx]] W fun e w' => e = .returned (.string (ba bq)) ∧ Below W.heap.size W w') := HBq.out heq
    clear HORD2 HBp HBq
    subst heq
    have HF1 : Hid (∀ U : World, TrIn (fun _ => True) U (.slice ha 0 hc) (.slice oa0 no oc0) (.slice ga ng gc) (.slice pa0 nO pc0) t → Calls Try.prog 7 #[.agg #[.int .i64 last, .int .i64 next, .slice ha 0 hc, .slice oa0 no oc0, .int .i64 first, .slice ga ng gc, .slice pa0 nO pc0], .string (ba bp)] U fun e w' => ∃ la1 ne1 ha1 hn1 hc1 oa1 on1 oc1 fi1 ga1 gn1 gc1 pa1 pn1 pc1, e = .returned (.tuple #[.agg #[.int .i64 la1, .int .i64 ne1, .slice ha1 hn1 hc1, .slice oa1 on1 oc1, .int .i64 fi1, .slice ga1 gn1 gc1, .slice pa1 pn1 pc1], .int .i64 ca, .int .i64 ea]) ∧ Hid (la1 = A.last ∧ ne1 = A.next ∧ fi1 = A.first ∧ gn1 = A.L.length) ∧ Hid (TrIn (fun g => U.heap.size ≤ g) w' (.slice ha1 hn1 hc1) (.slice oa1 on1 oc1) (.slice ga1 gn1 gc1) (.slice pa1 pn1 pc1) A) ∧ Below U.heap.size U w') := HFt.out bp A ca ea HAA.out.1
    have HF3 : Hid (∀ U : World, TrIn (fun _ => True) U (.slice ha 0 hc) (.slice oa0 no oc0) (.slice ga ng gc) (.slice pa0 nO pc0) t → Calls Try.prog 7 #[.agg #[.int .i64 last, .int .i64 next, .slice ha 0 hc, .slice oa0 no oc0, .int .i64 first, .slice ga ng gc, .slice pa0 nO pc0], .string (ba bq)] U fun e w' => ∃ la3 ne3 ha3 hn3 hc3 oa3 on3 oc3 fi3 ga3 gn3 gc3 pa3 pn3 pc3, e = .returned (.tuple #[.agg #[.int .i64 la3, .int .i64 ne3, .slice ha3 hn3 hc3, .slice oa3 on3 oc3, .int .i64 fi3, .slice ga3 gn3 gc3, .slice pa3 pn3 pc3], .int .i64 cc, .int .i64 ec]) ∧ Hid (la3 = C.last ∧ ne3 = C.next ∧ fi3 = C.first ∧ gn3 = C.L.length) ∧ Hid (TrIn (fun g => U.heap.size ≤ g) w' (.slice ha3 hn3 hc3) (.slice oa3 on3 oc3) (.slice ga3 gn3 gc3) (.slice pa3 pn3 pc3) C) ∧ Below U.heap.size U w') := HFt.out bq C cc ec HAA.out.2.2.1
    clear HFt
    go_upto_region 8 with fail
    have HTR : Hid (∀ U, Below w7.heap.size w7 U → TrIn (fun _ => True) U (.slice ha 0 hc) (.slice oa0 no oc0) (.slice ga ng gc) (.slice pa0 nO pc0) t) := fun U hU => (HS7.out U hU).1.1.2.mono fun _ _ _ => trivial
    refine region_main (by kernel_rfl) (by kernel_rfl) [.quiet (.agg #[.int .i64 last, .int .i64 next, .slice ha 0 hc, .slice oa0 no oc0, .int .i64 first, .slice ga ng gc, .slice pa0 nO pc0]), .quiet (.agg #[.int .i64 sp, .int .i64 pt, .bool pf, .bool pe, .bool pk, .string px]), .qcall (.string (ba bp)), .main, .fin (fun r => r), .fin (exT 0), .fin (exT 1), .fin (exT 2), .box 34 #[.int .i64 0, .int .i64 0, .slice none 0 0, .slice none 0 0, .int .i64 0, .slice none 0 0, .slice none 0 0], .put 8 (fun r => aggC (exT 0 r)), .fin (exT 1), .fin (exT 2)] 3 (by kernel_rfl)
      (fun S r w' => ∃ la1 ne1 ha1 hn1 hc1 oa1 on1 oc1 fi1 ga1 gn1 gc1 pa1 pn1 pc1, r = .tuple #[.agg #[.int .i64 la1, .int .i64 ne1, .slice ha1 hn1 hc1, .slice oa1 on1 oc1, .int .i64 fi1, .slice ga1 gn1 gc1, .slice pa1 pn1 pc1], .int .i64 ca, .int .i64 ea] ∧ (la1 = A.last ∧ ne1 = A.next ∧ fi1 = A.first ∧ gn1 = A.L.length) ∧ TrIn S w' (.slice ha1 hn1 hc1) (.slice oa1 on1 oc1) (.slice ga1 gn1 gc1) (.slice pa1 pn1 pc1) A) ?loc ?step ?fin
    case loc =>
      rintro S r w1 w3 ⟨la1, ne1, ha1, hn1, hc1, oa1, on1, oc1, fi1, ga1, gn1, gc1, pa1, pn1, pc1, rfl, h1, h2⟩ hs hsame
      exact ⟨la1, ne1, ha1, hn1, hc1, oa1, on1, oc1, fi1, ga1, gn1, gc1, pa1, pn1, pc1, rfl, h1, h2.to ⟨hs, fun g hg hS => hsame g hS hg⟩ (fun _ _ h => h)⟩
    case step =>
      intro i o ho a' w' r hb hfree hvals
      have f3 : a'.eval (.tmp 3) = .pointer (some ⟨X, 0, none⟩) := (hfree 3 (by kernel_rfl)).trans rfl
      have f4 : a'.eval (.tmp 4) = .pointer (some ⟨X + 1, 0, none⟩) := (hfree 4 (by kernel_rfl)).trans rfl
      obtain ⟨y0, y1, y2, y3, y4, y5, y6⟩ := (HS7.out w' hb).1.1.1.sevenc
      obtain ⟨z0, z1, z2, z3, z4, z5⟩ := (HS7.out w' hb).1.2.1.sixo
      match i, ho with
      | 0, ho =>
        simp at ho; subst ho
        show (execOp a'.eval _).run _ w' = .ok (.value _) w'
        generalize a'.eval = ρ at *
        simp [execOp, go_sem, f3, y0, y1, y2, y3, y4, y5, y6]
      | 1, ho =>
        simp at ho; subst ho
        show (execOp a'.eval _).run _ w' = .ok (.value _) w'
        generalize a'.eval = ρ at *
        simp [execOp, go_sem, f4, z0, z1, z2, z3, z4, z5]
      | 2, ho =>
        simp at ho; subst ho
        have e70 : a'.eval (.tmp 70) = .agg #[.int .i64 sp, .int .i64 pt, .bool pf, .bool pe, .bool pk, .string px] := hvals 1 _ (by kernel_rfl) rfl
        have ef : a'.eval (.func 8) = .func (.func 8) #[] #[] := rfl
        show ∃ f args, (execOp a'.eval _).run _ w' = .ok (.enter f args) w' ∧ _
        generalize a'.eval = ρ at *
        exact ⟨8, #[.agg #[.int .i64 sp, .int .i64 pt, .bool pf, .bool pe, .bool pk, .string px]], by simp [execOp, go_sem, e70, ef], HBP.out w'⟩
      | 3, ho =>
        simp at ho; subst ho
        have e69 : a'.eval (.tmp 69) = .agg #[.int .i64 last, .int .i64 next, .slice ha 0 hc, .slice oa0 no oc0, .int .i64 first, .slice ga ng gc, .slice pa0 nO pc0] := hvals 0 _ (by kernel_rfl) rfl
        have e71 : a'.eval (.tmp 71) = .string (ba bp) := hvals 2 _ (by kernel_rfl) rfl
        have ef : a'.eval (.func 7) = .func (.func 7) #[] #[] := rfl
        show ∃ f args, (execOp a'.eval _).run _ w' = .ok (.enter f args) w' ∧ _
        generalize a'.eval = ρ at *
        refine ⟨7, #[.agg #[.int .i64 last, .int .i64 next, .slice ha 0 hc, .slice oa0 no oc0, .int .i64 first, .slice ga ng gc, .slice pa0 nO pc0], .string (ba bp)], by simp [execOp, go_sem, e69, e71, ef], ?_⟩
        refine (HF1.out w' (HTR.out w' hb)).mono ?_
        rintro e w'' ⟨la1, ne1, ha1, hn1, hc1, oa1, on1, oc1, fi1, ga1, gn1, gc1, pa1, pn1, pc1, rfl, q1, q2, q3⟩
        exact ⟨_, rfl, ⟨la1, ne1, ha1, hn1, hc1, oa1, on1, oc1, fi1, ga1, gn1, gc1, pa1, pn1, pc1, rfl, q1.out, q2.out.mono fun g hl hg => ⟨hl, .inr hg⟩⟩, q3⟩
      | 4, ho =>
        simp at ho; subst ho
        have e72 : a'.eval (.tmp 72) = r := hvals 3 _ (by kernel_rfl) rfl
        show ∀ S, _ → (execOp a'.eval _).run _ w' = .ok (.value _) w'
        rintro S ⟨la1, ne1, ha1, hn1, hc1, oa1, on1, oc1, fi1, ga1, gn1, gc1, pa1, pn1, pc1, rfl, _⟩
        try simp only [exT] at e72
        generalize a'.eval = ρ at *
        simp [execOp, go_sem, e72]
      | 5, ho =>
        simp at ho; subst ho
        have e68 : a'.eval (.tmp 68) = r := hvals 4 _ (by kernel_rfl) rfl
        show ∀ S, _ → (execOp a'.eval _).run _ w' = .ok (.value _) w'
        rintro S ⟨la1, ne1, ha1, hn1, hc1, oa1, on1, oc1, fi1, ga1, gn1, gc1, pa1, pn1, pc1, rfl, _⟩
        try simp only [exT] at e68
        generalize a'.eval = ρ at *
        simp [execOp, go_sem, e68, exT]
      | 6, ho =>
        simp at ho; subst ho
        have e68 : a'.eval (.tmp 68) = r := hvals 4 _ (by kernel_rfl) rfl
        show ∀ S, _ → (execOp a'.eval _).run _ w' = .ok (.value _) w'
        rintro S ⟨la1, ne1, ha1, hn1, hc1, oa1, on1, oc1, fi1, ga1, gn1, gc1, pa1, pn1, pc1, rfl, _⟩
        try simp only [exT] at e68
        generalize a'.eval = ρ at *
        simp [execOp, go_sem, e68, exT]
      | 7, ho =>
        simp at ho; subst ho
        have e68 : a'.eval (.tmp 68) = r := hvals 4 _ (by kernel_rfl) rfl
        show ∀ S, _ → (execOp a'.eval _).run _ w' = .ok (.value _) w'
        rintro S ⟨la1, ne1, ha1, hn1, hc1, oa1, on1, oc1, fi1, ga1, gn1, gc1, pa1, pn1, pc1, rfl, _⟩
        try simp only [exT] at e68
        generalize a'.eval = ρ at *
        simp [execOp, go_sem, e68, exT]
      | 8, ho =>
        simp at ho; subst ho
        show (execOp a'.eval _).run _ w' = .ok (.value _) _
        generalize a'.eval = ρ at *
        simp [execOp, go_sem]
      | 9, ho =>
        simp at ho; subst ho
        have e73 : a'.eval (.tmp 73) = (exT 0) r := hvals 5 _ (by kernel_rfl) rfl
        show ∀ S, _ → ∀ t z g C, _ → _ → _ → _ → ∃ w'', (execOp a'.eval _).run _ w' = .ok .skip w'' ∧ _
        rintro S ⟨la1, ne1, ha1, hn1, hc1, oa1, on1, oc1, fi1, ga1, gn1, gc1, pa1, pn1, pc1, rfl, _⟩ t z g C hz hC hs (eb : a'.eval (.tmp 7) = _)
        cases hz
        obtain ⟨u0, u1, u2, u3, u4, u5, u6, q0, q1, q2, q3, q4, q5, q6⟩ := track_cells7 hC hs
        have p0 := hC.free 0
        have p1 := hC.free 1
        have p2 := hC.free 2
        have p3 := hC.free 3
        have p4 := hC.free 4
        have p5 := hC.free 5
        have p6 := hC.free 6
        obtain ⟨m1, m2, m3⟩ := track_set7 hC hs (.int .i64 la1) (.int .i64 ne1) (.slice ha1 hn1 hc1) (.slice oa1 on1 oc1) (.int .i64 fi1) (.slice ga1 gn1 gc1) (.slice pa1 pn1 pc1)
        simp only [exT] at e73
        generalize a'.eval = ρ at *
        have hB := seven_below (A := g) (Below.refl 0 w') (Nat.zero_le g) (.int .i64 la1) (.int .i64 ne1) (.slice ha1 hn1 hc1) (.slice oa1 on1 oc1) (.int .i64 fi1) (.slice ga1 gn1 gc1) (.slice pa1 pn1 pc1)
        refine ⟨_, ?_, m1, m2, rfl, m3, hB.os, hB.tape, hB.output⟩
        clear m1 m2 m3 hB
        simp [execOp, go_sem, e73, eb, q0, q1, q2, q3, q4, q5, q6, p0, p1, p2, p3, p4, p5, p6]
      | 10, ho =>
        simp at ho; subst ho
        have e74 : a'.eval (.tmp 74) = (exT 1) r := hvals 6 _ (by kernel_rfl) rfl
        show ∀ S, _ → (execOp a'.eval _).run _ w' = .ok (.value _) w'
        rintro S ⟨la1, ne1, ha1, hn1, hc1, oa1, on1, oc1, fi1, ga1, gn1, gc1, pa1, pn1, pc1, rfl, _⟩
        try simp only [exT] at e74
        generalize a'.eval = ρ at *
        simp [execOp, go_sem, e74, exT]
      | 11, ho =>
        simp at ho; subst ho
        have e75 : a'.eval (.tmp 75) = (exT 2) r := hvals 7 _ (by kernel_rfl) rfl
        show ∀ S, _ → (execOp a'.eval _).run _ w' = .ok (.value _) w'
        rintro S ⟨la1, ne1, ha1, hn1, hc1, oa1, on1, oc1, fi1, ga1, gn1, gc1, pa1, pn1, pc1, rfl, _⟩
        try simp only [exT] at e75
        generalize a'.eval = ρ at *
        simp [execOp, go_sem, e75, exT]
      | i + 12, ho => simp at ho
    case fin =>
      rintro r gs Sr W hb ⟨la1, ne1, ha1, hn1, hc1, oa1, on1, oc1, fi1, ga1, gn1, gc1, pa1, pn1, pc1, rfl, h1, h2⟩ hS hbox hap
      obtain ⟨p1, p2, C, p3, p4⟩ := hbox 8 _ _ (by decide) rfl
      have p5 := p4 9 _ (by decide) rfl
      subst p5
      have KN : Blk W (gs 8) #[.int .i64 la1, .int .i64 ne1, .slice ha1 hn1 hc1, .slice oa1 on1 oc1, .int .i64 fi1, .slice ga1 gn1 gc1, .slice pa1 pn1 pc1] 34 := p3
      simp only [putK, Kd.out, exT, Act.put, List.setIfInBounds_toArray, List.set_cons_succ, List.set_cons_zero, List.getElem?_toArray, List.getElem?_cons_zero, List.getElem?_cons_succ, Option.getD_some]
      obtain ⟨bq1, hbq⟩ : ∃ p, p = gs 8 := ⟨_, rfl⟩
      rw [← hbq] at KN p1
      rw [← hbq]
      have G1 : Hid (la1 = A.last ∧ ne1 = A.next ∧ fi1 = A.first ∧ gn1 = A.L.length) := h1
      have TN : TrIn (fun _ => True) W (.slice ha1 hn1 hc1) (.slice oa1 on1 oc1) (.slice ga1 gn1 gc1) (.slice pa1 pn1 pc1) A := h2.mono fun _ _ _ => trivial
      have HS8 : Hid (Stay W _) := ((Stay.go HS7 hb).out.and (KN.stay.and TN.stay))
      clear hbq h1 h2 hS hbox hap p1 p2 p3 p4 hb KN TN HS7 HTR
      have HF2 : Hid (∀ U : World, TrIn (fun _ => True) U (.slice ha1 hn1 hc1) (.slice oa1 on1 oc1) (.slice ga1 gn1 gc1) (.slice pa1 pn1 pc1) A → Calls Try.prog 7 #[.agg #[.int .i64 la1, .int .i64 ne1, .slice ha1 hn1 hc1, .slice oa1 on1 oc1, .int .i64 fi1, .slice ga1 gn1 gc1, .slice pa1 pn1 pc1], .string (ba bq)] U fun e w' => ∃ la2 ne2 ha2 hn2 hc2 oa2 on2 oc2 fi2 ga2 gn2 gc2 pa2 pn2 pc2, e = .returned (.tuple #[.agg #[.int .i64 la2, .int .i64 ne2, .slice ha2 hn2 hc2, .slice oa2 on2 oc2, .int .i64 fi2, .slice ga2 gn2 gc2, .slice pa2 pn2 pc2], .int .i64 cb, .int .i64 eb]) ∧ Hid (la2 = B.last ∧ ne2 = B.next ∧ fi2 = B.first ∧ gn2 = B.L.length) ∧ Hid (TrIn (fun g => U.heap.size ≤ g) w' (.slice ha2 hn2 hc2) (.slice oa2 on2 oc2) (.slice ga2 gn2 gc2) (.slice pa2 pn2 pc2) B) ∧ Below U.heap.size U w') := fun U q => begFeed A B bq cb eb _ _ _ _ _ _ _ _ U HAA.out.2.1 G1.out.1 G1.out.2.1 G1.out.2.2.1 q
      clear HF1 BW
      go_upto_region 9 with fail
      have HTR : Hid (∀ U, Below W.heap.size W U → TrIn (fun _ => True) U (.slice ha1 hn1 hc1) (.slice oa1 on1 oc1) (.slice ga1 gn1 gc1) (.slice pa1 pn1 pc1) A) := fun U hU => (HS8.out U hU).2.2
      refine region_main (by kernel_rfl) (by kernel_rfl) [.quiet (.agg #[.int .i64 la1, .int .i64 ne1, .slice ha1 hn1 hc1, .slice oa1 on1 oc1, .int .i64 fi1, .slice ga1 gn1 gc1, .slice pa1 pn1 pc1]), .quiet (.agg #[.int .i64 sq, .int .i64 qt, .bool qf, .bool qe, .bool qk, .string qx]), .qcall (.string (ba bq)), .main, .fin (fun r => r), .fin (exT 0), .fin (exT 1), .fin (exT 2), .box 34 #[.int .i64 0, .int .i64 0, .slice none 0 0, .slice none 0 0, .int .i64 0, .slice none 0 0, .slice none 0 0], .put 8 (fun r => aggC (exT 0 r)), .fin (exT 1), .fin (exT 2)] 3 (by kernel_rfl)
        (fun S r w' => ∃ la2 ne2 ha2 hn2 hc2 oa2 on2 oc2 fi2 ga2 gn2 gc2 pa2 pn2 pc2, r = .tuple #[.agg #[.int .i64 la2, .int .i64 ne2, .slice ha2 hn2 hc2, .slice oa2 on2 oc2, .int .i64 fi2, .slice ga2 gn2 gc2, .slice pa2 pn2 pc2], .int .i64 cb, .int .i64 eb] ∧ (la2 = B.last ∧ ne2 = B.next ∧ fi2 = B.first ∧ gn2 = B.L.length) ∧ TrIn S w' (.slice ha2 hn2 hc2) (.slice oa2 on2 oc2) (.slice ga2 gn2 gc2) (.slice pa2 pn2 pc2) B) ?loc ?step ?fin
      case loc =>
        rintro S r w1 w3 ⟨la2, ne2, ha2, hn2, hc2, oa2, on2, oc2, fi2, ga2, gn2, gc2, pa2, pn2, pc2, rfl, h1, h2⟩ hs hsame
        exact ⟨la2, ne2, ha2, hn2, hc2, oa2, on2, oc2, fi2, ga2, gn2, gc2, pa2, pn2, pc2, rfl, h1, h2.to ⟨hs, fun g hg hS => hsame g hS hg⟩ (fun _ _ h => h)⟩
      case step =>
        intro i o ho a' w' r hb hfree hvals
        have f7 : a'.eval (.tmp 7) = .pointer (some ⟨bq1, 0, none⟩) := (hfree 7 (by kernel_rfl)).trans rfl
        have f5 : a'.eval (.tmp 5) = .pointer (some ⟨X + 1 + 1, 0, none⟩) := (hfree 5 (by kernel_rfl)).trans rfl
        obtain ⟨y0, y1, y2, y3, y4, y5, y6⟩ := (HS8.out w' hb).2.1.sevenc
        obtain ⟨z0, z1, z2, z3, z4, z5⟩ := (HS8.out w' hb).1.1.2.2.sixo
        match i, ho with
        | 0, ho =>
          simp at ho; subst ho
          show (execOp a'.eval _).run _ w' = .ok (.value _) w'
          generalize a'.eval = ρ at *
          simp [execOp, go_sem, f7, y0, y1, y2, y3, y4, y5, y6]
        | 1, ho =>
          simp at ho; subst ho
          show (execOp a'.eval _).run _ w' = .ok (.value _) w'
          generalize a'.eval = ρ at *
          simp [execOp, go_sem, f5, z0, z1, z2, z3, z4, z5]
        | 2, ho =>
          simp at ho; subst ho
          have e78 : a'.eval (.tmp 78) = .agg #[.int .i64 sq, .int .i64 qt, .bool qf, .bool qe, .bool qk, .string qx] := hvals 1 _ (by kernel_rfl) rfl
          have ef : a'.eval (.func 8) = .func (.func 8) #[] #[] := rfl
          show ∃ f args, (execOp a'.eval _).run _ w' = .ok (.enter f args) w' ∧ _
          generalize a'.eval = ρ at *
          exact ⟨8, #[.agg #[.int .i64 sq, .int .i64 qt, .bool qf, .bool qe, .bool qk, .string qx]], by simp [execOp, go_sem, e78, ef], HBQ.out w'⟩
        | 3, ho =>
          simp at ho; subst ho
          have e77 : a'.eval (.tmp 77) = .agg #[.int .i64 la1, .int .i64 ne1, .slice ha1 hn1 hc1, .slice oa1 on1 oc1, .int .i64 fi1, .slice ga1 gn1 gc1, .slice pa1 pn1 pc1] := hvals 0 _ (by kernel_rfl) rfl
          have e79 : a'.eval (.tmp 79) = .string (ba bq) := hvals 2 _ (by kernel_rfl) rfl
          have ef : a'.eval (.func 7) = .func (.func 7) #[] #[] := rfl
          show ∃ f args, (execOp a'.eval _).run _ w' = .ok (.enter f args) w' ∧ _
          generalize a'.eval = ρ at *
          refine ⟨7, #[.agg #[.int .i64 la1, .int .i64 ne1, .slice ha1 hn1 hc1, .slice oa1 on1 oc1, .int .i64 fi1, .slice ga1 gn1 gc1, .slice pa1 pn1 pc1], .string (ba bq)], by simp [execOp, go_sem, e77, e79, ef], ?_⟩
          refine (HF2.out w' (HTR.out w' hb)).mono ?_
          rintro e w'' ⟨la2, ne2, ha2, hn2, hc2, oa2, on2, oc2, fi2, ga2, gn2, gc2, pa2, pn2, pc2, rfl, q1, q2, q3⟩
          exact ⟨_, rfl, ⟨la2, ne2, ha2, hn2, hc2, oa2, on2, oc2, fi2, ga2, gn2, gc2, pa2, pn2, pc2, rfl, q1.out, q2.out.mono fun g hl hg => ⟨hl, .inr hg⟩⟩, q3⟩
        | 4, ho =>
          simp at ho; subst ho
          have e80 : a'.eval (.tmp 80) = r := hvals 3 _ (by kernel_rfl) rfl
          show ∀ S, _ → (execOp a'.eval _).run _ w' = .ok (.value _) w'
          rintro S ⟨la2, ne2, ha2, hn2, hc2, oa2, on2, oc2, fi2, ga2, gn2, gc2, pa2, pn2, pc2, rfl, _⟩
          try simp only [exT] at e80
          generalize a'.eval = ρ at *
          simp [execOp, go_sem, e80]
        | 5, ho =>
          simp at ho; subst ho
          have e76 : a'.eval (.tmp 76) = r := hvals 4 _ (by kernel_rfl) rfl
          show ∀ S, _ → (execOp a'.eval _).run _ w' = .ok (.value _) w'
          rintro S ⟨la2, ne2, ha2, hn2, hc2, oa2, on2, oc2, fi2, ga2, gn2, gc2, pa2, pn2, pc2, rfl, _⟩
          try simp only [exT] at e76
          generalize a'.eval = ρ at *
          simp [execOp, go_sem, e76, exT]
        | 6, ho =>
          simp at ho; subst ho
          have e76 : a'.eval (.tmp 76) = r := hvals 4 _ (by kernel_rfl) rfl
          show ∀ S, _ → (execOp a'.eval _).run _ w' = .ok (.value _) w'
          rintro S ⟨la2, ne2, ha2, hn2, hc2, oa2, on2, oc2, fi2, ga2, gn2, gc2, pa2, pn2, pc2, rfl, _⟩
          try simp only [exT] at e76
          generalize a'.eval = ρ at *
          simp [execOp, go_sem, e76, exT]
        | 7, ho =>
          simp at ho; subst ho
          have e76 : a'.eval (.tmp 76) = r := hvals 4 _ (by kernel_rfl) rfl
          show ∀ S, _ → (execOp a'.eval _).run _ w' = .ok (.value _) w'
          rintro S ⟨la2, ne2, ha2, hn2, hc2, oa2, on2, oc2, fi2, ga2, gn2, gc2, pa2, pn2, pc2, rfl, _⟩
          try simp only [exT] at e76
          generalize a'.eval = ρ at *
          simp [execOp, go_sem, e76, exT]
        | 8, ho =>
          simp at ho; subst ho
          show (execOp a'.eval _).run _ w' = .ok (.value _) _
          generalize a'.eval = ρ at *
          simp [execOp, go_sem]
        | 9, ho =>
          simp at ho; subst ho
          have e81 : a'.eval (.tmp 81) = (exT 0) r := hvals 5 _ (by kernel_rfl) rfl
          show ∀ S, _ → ∀ t z g C, _ → _ → _ → _ → ∃ w'', (execOp a'.eval _).run _ w' = .ok .skip w'' ∧ _
          rintro S ⟨la2, ne2, ha2, hn2, hc2, oa2, on2, oc2, fi2, ga2, gn2, gc2, pa2, pn2, pc2, rfl, _⟩ t z g C hz hC hs (eb : a'.eval (.tmp 10) = _)
          cases hz
          obtain ⟨u0, u1, u2, u3, u4, u5, u6, q0, q1, q2, q3, q4, q5, q6⟩ := track_cells7 hC hs
          have p0 := hC.free 0
          have p1 := hC.free 1
          have p2 := hC.free 2
          have p3 := hC.free 3
          have p4 := hC.free 4
          have p5 := hC.free 5
          have p6 := hC.free 6
          obtain ⟨m1, m2, m3⟩ := track_set7 hC hs (.int .i64 la2) (.int .i64 ne2) (.slice ha2 hn2 hc2) (.slice oa2 on2 oc2) (.int .i64 fi2) (.slice ga2 gn2 gc2) (.slice pa2 pn2 pc2)
          simp only [exT] at e81
          generalize a'.eval = ρ at *
          have hB := seven_below (A := g) (Below.refl 0 w') (Nat.zero_le g) (.int .i64 la2) (.int .i64 ne2) (.slice ha2 hn2 hc2) (.slice oa2 on2 oc2) (.int .i64 fi2) (.slice ga2 gn2 gc2) (.slice pa2 pn2 pc2)
          refine ⟨_, ?_, m1, m2, rfl, m3, hB.os, hB.tape, hB.output⟩
          clear m1 m2 m3 hB
          simp [execOp, go_sem, e81, eb, q0, q1, q2, q3, q4, q5, q6, p0, p1, p2, p3, p4, p5, p6]
        | 10, ho =>
          simp at ho; subst ho
          have e82 : a'.eval (.tmp 82) = (exT 1) r := hvals 6 _ (by kernel_rfl) rfl
          show ∀ S, _ → (execOp a'.eval _).run _ w' = .ok (.value _) w'
          rintro S ⟨la2, ne2, ha2, hn2, hc2, oa2, on2, oc2, fi2, ga2, gn2, gc2, pa2, pn2, pc2, rfl, _⟩
          try simp only [exT] at e82
          generalize a'.eval = ρ at *
          simp [execOp, go_sem, e82, exT]
        | 11, ho =>
          simp at ho; subst ho
          have e83 : a'.eval (.tmp 83) = (exT 2) r := hvals 7 _ (by kernel_rfl) rfl
          show ∀ S, _ → (execOp a'.eval _).run _ w' = .ok (.value _) w'
          rintro S ⟨la2, ne2, ha2, hn2, hc2, oa2, on2, oc2, fi2, ga2, gn2, gc2, pa2, pn2, pc2, rfl, _⟩
          try simp only [exT] at e83
          generalize a'.eval = ρ at *
          simp [execOp, go_sem, e83, exT]
        | i + 12, ho => simp at ho
      case fin =>
        rintro r gs Sr W hb ⟨la2, ne2, ha2, hn2, hc2, oa2, on2, oc2, fi2, ga2, gn2, gc2, pa2, pn2, pc2, rfl, h1, h2⟩ hS hbox hap
        obtain ⟨p1, p2, C, p3, p4⟩ := hbox 8 _ _ (by decide) rfl
        have p5 := p4 9 _ (by decide) rfl
        subst p5
        have KN : Blk W (gs 8) #[.int .i64 la2, .int .i64 ne2, .slice ha2 hn2 hc2, .slice oa2 on2 oc2, .int .i64 fi2, .slice ga2 gn2 gc2, .slice pa2 pn2 pc2] 34 := p3
        simp only [putK, Kd.out, exT, Act.put, List.setIfInBounds_toArray, List.set_cons_succ, List.set_cons_zero, List.getElem?_toArray, List.getElem?_cons_zero, List.getElem?_cons_succ, Option.getD_some]
        obtain ⟨bq2, hbq⟩ : ∃ p, p = gs 8 := ⟨_, rfl⟩
        rw [← hbq] at KN p1
        rw [← hbq]
        have G2 : Hid (la2 = B.last ∧ ne2 = B.next ∧ fi2 = B.first ∧ gn2 = B.L.length) := h1
        have TN : TrIn (fun _ => True) W (.slice ha2 hn2 hc2) (.slice oa2 on2 oc2) (.slice ga2 gn2 gc2) (.slice pa2 pn2 pc2) B := h2.mono fun _ _ _ => trivial
        have HS9 : Hid (Stay W _) := ((Stay.go HS8 hb).out.and (KN.stay.and TN.stay))
        clear hbq h1 h2 hS hbox hap p1 p2 p3 p4 hb KN TN HS8 HTR
        clear HF2
        go_upto_region 10 with fail
        have HTR : Hid (∀ U, Below W.heap.size W U → TrIn (fun _ => True) U (.slice ha 0 hc) (.slice oa0 no oc0) (.slice ga ng gc) (.slice pa0 nO pc0) t) := fun U hU => (HS9.out U hU).1.1.1.1.2.mono fun _ _ _ => trivial
        refine region_main (by kernel_rfl) (by kernel_rfl) [.quiet (.agg #[.int .i64 last, .int .i64 next, .slice ha 0 hc, .slice oa0 no oc0, .int .i64 first, .slice ga ng gc, .slice pa0 nO pc0]), .quiet (.agg #[.int .i64 sq, .int .i64 qt, .bool qf, .bool qe, .bool qk, .string qx]), .qcall (.string (ba bq)), .main, .fin (fun r => r), .fin (exT 0), .fin (exT 1), .fin (exT 2), .box 34 #[.int .i64 0, .int .i64 0, .slice none 0 0, .slice none 0 0, .int .i64 0, .slice none 0 0, .slice none 0 0], .put 8 (fun r => aggC (exT 0 r)), .fin (exT 1), .fin (exT 2)] 3 (by kernel_rfl)
          (fun S r w' => ∃ la3 ne3 ha3 hn3 hc3 oa3 on3 oc3 fi3 ga3 gn3 gc3 pa3 pn3 pc3, r = .tuple #[.agg #[.int .i64 la3, .int .i64 ne3, .slice ha3 hn3 hc3, .slice oa3 on3 oc3, .int .i64 fi3, .slice ga3 gn3 gc3, .slice pa3 pn3 pc3], .int .i64 cc, .int .i64 ec] ∧ (la3 = C.last ∧ ne3 = C.next ∧ fi3 = C.first ∧ gn3 = C.L.length) ∧ TrIn S w' (.slice ha3 hn3 hc3) (.slice oa3 on3 oc3) (.slice ga3 gn3 gc3) (.slice pa3 pn3 pc3) C) ?loc ?step ?fin
        case loc =>
          rintro S r w1 w3 ⟨la3, ne3, ha3, hn3, hc3, oa3, on3, oc3, fi3, ga3, gn3, gc3, pa3, pn3, pc3, rfl, h1, h2⟩ hs hsame
          exact ⟨la3, ne3, ha3, hn3, hc3, oa3, on3, oc3, fi3, ga3, gn3, gc3, pa3, pn3, pc3, rfl, h1, h2.to ⟨hs, fun g hg hS => hsame g hS hg⟩ (fun _ _ h => h)⟩
        case step =>
          intro i o ho a' w' r hb hfree hvals
          have f3 : a'.eval (.tmp 3) = .pointer (some ⟨X, 0, none⟩) := (hfree 3 (by kernel_rfl)).trans rfl
          have f5 : a'.eval (.tmp 5) = .pointer (some ⟨X + 1 + 1, 0, none⟩) := (hfree 5 (by kernel_rfl)).trans rfl
          obtain ⟨y0, y1, y2, y3, y4, y5, y6⟩ := (HS9.out w' hb).1.1.1.1.1.sevenc
          obtain ⟨z0, z1, z2, z3, z4, z5⟩ := (HS9.out w' hb).1.1.1.2.2.sixo
          match i, ho with
          | 0, ho =>
            simp at ho; subst ho
            show (execOp a'.eval _).run _ w' = .ok (.value _) w'
            generalize a'.eval = ρ at *
            simp [execOp, go_sem, f3, y0, y1, y2, y3, y4, y5, y6]
          | 1, ho =>
            simp at ho; subst ho
            show (execOp a'.eval _).run _ w' = .ok (.value _) w'
            generalize a'.eval = ρ at *
            simp [execOp, go_sem, f5, z0, z1, z2, z3, z4, z5]
          | 2, ho =>
            simp at ho; subst ho
            have e86 : a'.eval (.tmp 86) = .agg #[.int .i64 sq, .int .i64 qt, .bool qf, .bool qe, .bool qk, .string qx] := hvals 1 _ (by kernel_rfl) rfl
            have ef : a'.eval (.func 8) = .func (.func 8) #[] #[] := rfl
            show ∃ f args, (execOp a'.eval _).run _ w' = .ok (.enter f args) w' ∧ _
            generalize a'.eval = ρ at *
            exact ⟨8, #[.agg #[.int .i64 sq, .int .i64 qt, .bool qf, .bool qe, .bool qk, .string qx]], by simp [execOp, go_sem, e86, ef], HBQ.out w'⟩
          | 3, ho =>
            simp at ho; subst ho
            have e85 : a'.eval (.tmp 85) = .agg #[.int .i64 last, .int .i64 next, .slice ha 0 hc, .slice oa0 no oc0, .int .i64 first, .slice ga ng gc, .slice pa0 nO pc0] := hvals 0 _ (by kernel_rfl) rfl
            have e87 : a'.eval (.tmp 87) = .string (ba bq) := hvals 2 _ (by kernel_rfl) rfl
            have ef : a'.eval (.func 7) = .func (.func 7) #[] #[] := rfl
            show ∃ f args, (execOp a'.eval _).run _ w' = .ok (.enter f args) w' ∧ _
            generalize a'.eval = ρ at *
            refine ⟨7, #[.agg #[.int .i64 last, .int .i64 next, .slice ha 0 hc, .slice oa0 no oc0, .int .i64 first, .slice ga ng gc, .slice pa0 nO pc0], .string (ba bq)], by simp [execOp, go_sem, e85, e87, ef], ?_⟩
            refine (HF3.out w' (HTR.out w' hb)).mono ?_
            rintro e w'' ⟨la3, ne3, ha3, hn3, hc3, oa3, on3, oc3, fi3, ga3, gn3, gc3, pa3, pn3, pc3, rfl, q1, q2, q3⟩
            exact ⟨_, rfl, ⟨la3, ne3, ha3, hn3, hc3, oa3, on3, oc3, fi3, ga3, gn3, gc3, pa3, pn3, pc3, rfl, q1.out, q2.out.mono fun g hl hg => ⟨hl, .inr hg⟩⟩, q3⟩
          | 4, ho =>
            simp at ho; subst ho
            have e88 : a'.eval (.tmp 88) = r := hvals 3 _ (by kernel_rfl) rfl
            show ∀ S, _ → (execOp a'.eval _).run _ w' = .ok (.value _) w'
            rintro S ⟨la3, ne3, ha3, hn3, hc3, oa3, on3, oc3, fi3, ga3, gn3, gc3, pa3, pn3, pc3, rfl, _⟩
            try simp only [exT] at e88
            generalize a'.eval = ρ at *
            simp [execOp, go_sem, e88]
          | 5, ho =>
            simp at ho; subst ho
            have e84 : a'.eval (.tmp 84) = r := hvals 4 _ (by kernel_rfl) rfl
            show ∀ S, _ → (execOp a'.eval _).run _ w' = .ok (.value _) w'
            rintro S ⟨la3, ne3, ha3, hn3, hc3, oa3, on3, oc3, fi3, ga3, gn3, gc3, pa3, pn3, pc3, rfl, _⟩
            try simp only [exT] at e84
            generalize a'.eval = ρ at *
            simp [execOp, go_sem, e84, exT]
          | 6, ho =>
            simp at ho; subst ho
            have e84 : a'.eval (.tmp 84) = r := hvals 4 _ (by kernel_rfl) rfl
            show ∀ S, _ → (execOp a'.eval _).run _ w' = .ok (.value _) w'
            rintro S ⟨la3, ne3, ha3, hn3, hc3, oa3, on3, oc3, fi3, ga3, gn3, gc3, pa3, pn3, pc3, rfl, _⟩
            try simp only [exT] at e84
            generalize a'.eval = ρ at *
            simp [execOp, go_sem, e84, exT]
          | 7, ho =>
            simp at ho; subst ho
            have e84 : a'.eval (.tmp 84) = r := hvals 4 _ (by kernel_rfl) rfl
            show ∀ S, _ → (execOp a'.eval _).run _ w' = .ok (.value _) w'
            rintro S ⟨la3, ne3, ha3, hn3, hc3, oa3, on3, oc3, fi3, ga3, gn3, gc3, pa3, pn3, pc3, rfl, _⟩
            try simp only [exT] at e84
            generalize a'.eval = ρ at *
            simp [execOp, go_sem, e84, exT]
          | 8, ho =>
            simp at ho; subst ho
            show (execOp a'.eval _).run _ w' = .ok (.value _) _
            generalize a'.eval = ρ at *
            simp [execOp, go_sem]
          | 9, ho =>
            simp at ho; subst ho
            have e89 : a'.eval (.tmp 89) = (exT 0) r := hvals 5 _ (by kernel_rfl) rfl
            show ∀ S, _ → ∀ t z g C, _ → _ → _ → _ → ∃ w'', (execOp a'.eval _).run _ w' = .ok .skip w'' ∧ _
            rintro S ⟨la3, ne3, ha3, hn3, hc3, oa3, on3, oc3, fi3, ga3, gn3, gc3, pa3, pn3, pc3, rfl, _⟩ t z g C hz hC hs (eb : a'.eval (.tmp 13) = _)
            cases hz
            obtain ⟨u0, u1, u2, u3, u4, u5, u6, q0, q1, q2, q3, q4, q5, q6⟩ := track_cells7 hC hs
            have p0 := hC.free 0
            have p1 := hC.free 1
            have p2 := hC.free 2
            have p3 := hC.free 3
            have p4 := hC.free 4
            have p5 := hC.free 5
            have p6 := hC.free 6
            obtain ⟨m1, m2, m3⟩ := track_set7 hC hs (.int .i64 la3) (.int .i64 ne3) (.slice ha3 hn3 hc3) (.slice oa3 on3 oc3) (.int .i64 fi3) (.slice ga3 gn3 gc3) (.slice pa3 pn3 pc3)
            simp only [exT] at e89
            generalize a'.eval = ρ at *
            have hB := seven_below (A := g) (Below.refl 0 w') (Nat.zero_le g) (.int .i64 la3) (.int .i64 ne3) (.slice ha3 hn3 hc3) (.slice oa3 on3 oc3) (.int .i64 fi3) (.slice ga3 gn3 gc3) (.slice pa3 pn3 pc3)
            refine ⟨_, ?_, m1, m2, rfl, m3, hB.os, hB.tape, hB.output⟩
            clear m1 m2 m3 hB
            simp [execOp, go_sem, e89, eb, q0, q1, q2, q3, q4, q5, q6, p0, p1, p2, p3, p4, p5, p6]
          | 10, ho =>
            simp at ho; subst ho
            have e90 : a'.eval (.tmp 90) = (exT 1) r := hvals 6 _ (by kernel_rfl) rfl
            show ∀ S, _ → (execOp a'.eval _).run _ w' = .ok (.value _) w'
            rintro S ⟨la3, ne3, ha3, hn3, hc3, oa3, on3, oc3, fi3, ga3, gn3, gc3, pa3, pn3, pc3, rfl, _⟩
            try simp only [exT] at e90
            generalize a'.eval = ρ at *
            simp [execOp, go_sem, e90, exT]
          | 11, ho =>
            simp at ho; subst ho
            have e91 : a'.eval (.tmp 91) = (exT 2) r := hvals 7 _ (by kernel_rfl) rfl
            show ∀ S, _ → (execOp a'.eval _).run _ w' = .ok (.value _) w'
            rintro S ⟨la3, ne3, ha3, hn3, hc3, oa3, on3, oc3, fi3, ga3, gn3, gc3, pa3, pn3, pc3, rfl, _⟩
            try simp only [exT] at e91
            generalize a'.eval = ρ at *
            simp [execOp, go_sem, e91, exT]
          | i + 12, ho => simp at ho
        case fin =>
          rintro r gs Sr W hb ⟨la3, ne3, ha3, hn3, hc3, oa3, on3, oc3, fi3, ga3, gn3, gc3, pa3, pn3, pc3, rfl, h1, h2⟩ hS hbox hap
          obtain ⟨p1, p2, C, p3, p4⟩ := hbox 8 _ _ (by decide) rfl
          have p5 := p4 9 _ (by decide) rfl
          subst p5
          have KN : Blk W (gs 8) #[.int .i64 la3, .int .i64 ne3, .slice ha3 hn3 hc3, .slice oa3 on3 oc3, .int .i64 fi3, .slice ga3 gn3 gc3, .slice pa3 pn3 pc3] 34 := p3
          simp only [putK, Kd.out, exT, Act.put, List.setIfInBounds_toArray, List.set_cons_succ, List.set_cons_zero, List.getElem?_toArray, List.getElem?_cons_zero, List.getElem?_cons_succ, Option.getD_some]
          obtain ⟨bq3, hbq⟩ : ∃ p, p = gs 8 := ⟨_, rfl⟩
          rw [← hbq] at KN p1
          rw [← hbq]
          have G3 : Hid (la3 = C.last ∧ ne3 = C.next ∧ fi3 = C.first ∧ gn3 = C.L.length) := h1
          have TN : TrIn (fun _ => True) W (.slice ha3 hn3 hc3) (.slice oa3 on3 oc3) (.slice ga3 gn3 gc3) (.slice pa3 pn3 pc3) C := h2.mono fun _ _ _ => trivial
          have HS10 : Hid (Stay W _) := ((Stay.go HS9 hb).out.and (KN.stay.and TN.stay))
          clear hbq h1 h2 hS hbox hap p1 p2 p3 p4 hb KN TN HS9 HTR
          have HF4 : Hid (∀ U : World, TrIn (fun _ => True) U (.slice ha3 hn3 hc3) (.slice oa3 on3 oc3) (.slice ga3 gn3 gc3) (.slice pa3 pn3 pc3) C → Calls Try.prog 7 #[.agg #[.int .i64 la3, .int .i64 ne3, .slice ha3 hn3 hc3, .slice oa3 on3 oc3, .int .i64 fi3, .slice ga3 gn3 gc3, .slice pa3 pn3 pc3], .string (ba bp)] U fun e w' => ∃ la4 ne4 ha4 hn4 hc4 oa4 on4 oc4 fi4 ga4 gn4 gc4 pa4 pn4 pc4, e = .returned (.tuple #[.agg #[.int .i64 la4, .int .i64 ne4, .slice ha4 hn4 hc4, .slice oa4 on4 oc4, .int .i64 fi4, .slice ga4 gn4 gc4, .slice pa4 pn4 pc4], .int .i64 cd, .int .i64 ed]) ∧ Hid (la4 = D.last ∧ ne4 = D.next ∧ fi4 = D.first ∧ gn4 = D.L.length) ∧ Hid (TrIn (fun g => U.heap.size ≤ g) w' (.slice ha4 hn4 hc4) (.slice oa4 on4 oc4) (.slice ga4 gn4 gc4) (.slice pa4 pn4 pc4) D) ∧ Below U.heap.size U w') := fun U q => begFeed C D bp cd ed _ _ _ _ _ _ _ _ U HAA.out.2.2.2 G3.out.1 G3.out.2.1 G3.out.2.2.1 q
          clear HF3 HBQ
          go_upto_region 11 with fail
          have HTR : Hid (∀ U, Below W.heap.size W U → TrIn (fun _ => True) U (.slice ha3 hn3 hc3) (.slice oa3 on3 oc3) (.slice ga3 gn3 gc3) (.slice pa3 pn3 pc3) C) := fun U hU => (HS10.out U hU).2.2
          refine region_main (by kernel_rfl) (by kernel_rfl) [.quiet (.agg #[.int .i64 la3, .int .i64 ne3, .slice ha3 hn3 hc3, .slice oa3 on3 oc3, .int .i64 fi3, .slice ga3 gn3 gc3, .slice pa3 pn3 pc3]), .quiet (.agg #[.int .i64 sp, .int .i64 pt, .bool pf, .bool pe, .bool pk, .string px]), .qcall (.string (ba bp)), .main, .fin (fun r => r), .fin (exT 0), .fin (exT 1), .fin (exT 2), .box 34 #[.int .i64 0, .int .i64 0, .slice none 0 0, .slice none 0 0, .int .i64 0, .slice none 0 0, .slice none 0 0], .put 8 (fun r => aggC (exT 0 r)), .fin (exT 1), .fin (exT 2)] 3 (by kernel_rfl)
            (fun S r w' => ∃ la4 ne4 ha4 hn4 hc4 oa4 on4 oc4 fi4 ga4 gn4 gc4 pa4 pn4 pc4, r = .tuple #[.agg #[.int .i64 la4, .int .i64 ne4, .slice ha4 hn4 hc4, .slice oa4 on4 oc4, .int .i64 fi4, .slice ga4 gn4 gc4, .slice pa4 pn4 pc4], .int .i64 cd, .int .i64 ed] ∧ (la4 = D.last ∧ ne4 = D.next ∧ fi4 = D.first ∧ gn4 = D.L.length) ∧ TrIn S w' (.slice ha4 hn4 hc4) (.slice oa4 on4 oc4) (.slice ga4 gn4 gc4) (.slice pa4 pn4 pc4) D) ?loc ?step ?fin
          case loc =>
            rintro S r w1 w3 ⟨la4, ne4, ha4, hn4, hc4, oa4, on4, oc4, fi4, ga4, gn4, gc4, pa4, pn4, pc4, rfl, h1, h2⟩ hs hsame
            exact ⟨la4, ne4, ha4, hn4, hc4, oa4, on4, oc4, fi4, ga4, gn4, gc4, pa4, pn4, pc4, rfl, h1, h2.to ⟨hs, fun g hg hS => hsame g hS hg⟩ (fun _ _ h => h)⟩
          case step =>
            intro i o ho a' w' r hb hfree hvals
            have f13 : a'.eval (.tmp 13) = .pointer (some ⟨bq3, 0, none⟩) := (hfree 13 (by kernel_rfl)).trans rfl
            have f4 : a'.eval (.tmp 4) = .pointer (some ⟨X + 1, 0, none⟩) := (hfree 4 (by kernel_rfl)).trans rfl
            obtain ⟨y0, y1, y2, y3, y4, y5, y6⟩ := (HS10.out w' hb).2.1.sevenc
            obtain ⟨z0, z1, z2, z3, z4, z5⟩ := (HS10.out w' hb).1.1.1.1.2.1.sixo
            match i, ho with
            | 0, ho =>
              simp at ho; subst ho
              show (execOp a'.eval _).run _ w' = .ok (.value _) w'
              generalize a'.eval = ρ at *
              simp [execOp, go_sem, f13, y0, y1, y2, y3, y4, y5, y6]
            | 1, ho =>
              simp at ho; subst ho
              show (execOp a'.eval _).run _ w' = .ok (.value _) w'
              generalize a'.eval = ρ at *
              simp [execOp, go_sem, f4, z0, z1, z2, z3, z4, z5]
            | 2, ho =>
              simp at ho; subst ho
              have e94 : a'.eval (.tmp 94) = .agg #[.int .i64 sp, .int .i64 pt, .bool pf, .bool pe, .bool pk, .string px] := hvals 1 _ (by kernel_rfl) rfl
              have ef : a'.eval (.func 8) = .func (.func 8) #[] #[] := rfl
              show ∃ f args, (execOp a'.eval _).run _ w' = .ok (.enter f args) w' ∧ _
              generalize a'.eval = ρ at *
              exact ⟨8, #[.agg #[.int .i64 sp, .int .i64 pt, .bool pf, .bool pe, .bool pk, .string px]], by simp [execOp, go_sem, e94, ef], HBP.out w'⟩
            | 3, ho =>
              simp at ho; subst ho
              have e93 : a'.eval (.tmp 93) = .agg #[.int .i64 la3, .int .i64 ne3, .slice ha3 hn3 hc3, .slice oa3 on3 oc3, .int .i64 fi3, .slice ga3 gn3 gc3, .slice pa3 pn3 pc3] := hvals 0 _ (by kernel_rfl) rfl
              have e95 : a'.eval (.tmp 95) = .string (ba bp) := hvals 2 _ (by kernel_rfl) rfl
              have ef : a'.eval (.func 7) = .func (.func 7) #[] #[] := rfl
              show ∃ f args, (execOp a'.eval _).run _ w' = .ok (.enter f args) w' ∧ _
              generalize a'.eval = ρ at *
              refine ⟨7, #[.agg #[.int .i64 la3, .int .i64 ne3, .slice ha3 hn3 hc3, .slice oa3 on3 oc3, .int .i64 fi3, .slice ga3 gn3 gc3, .slice pa3 pn3 pc3], .string (ba bp)], by simp [execOp, go_sem, e93, e95, ef], ?_⟩
              refine (HF4.out w' (HTR.out w' hb)).mono ?_
              rintro e w'' ⟨la4, ne4, ha4, hn4, hc4, oa4, on4, oc4, fi4, ga4, gn4, gc4, pa4, pn4, pc4, rfl, q1, q2, q3⟩
              exact ⟨_, rfl, ⟨la4, ne4, ha4, hn4, hc4, oa4, on4, oc4, fi4, ga4, gn4, gc4, pa4, pn4, pc4, rfl, q1.out, q2.out.mono fun g hl hg => ⟨hl, .inr hg⟩⟩, q3⟩
            | 4, ho =>
              simp at ho; subst ho
              have e96 : a'.eval (.tmp 96) = r := hvals 3 _ (by kernel_rfl) rfl
              show ∀ S, _ → (execOp a'.eval _).run _ w' = .ok (.value _) w'
              rintro S ⟨la4, ne4, ha4, hn4, hc4, oa4, on4, oc4, fi4, ga4, gn4, gc4, pa4, pn4, pc4, rfl, _⟩
              try simp only [exT] at e96
              generalize a'.eval = ρ at *
              simp [execOp, go_sem, e96]
            | 5, ho =>
              simp at ho; subst ho
              have e92 : a'.eval (.tmp 92) = r := hvals 4 _ (by kernel_rfl) rfl
              show ∀ S, _ → (execOp a'.eval _).run _ w' = .ok (.value _) w'
              rintro S ⟨la4, ne4, ha4, hn4, hc4, oa4, on4, oc4, fi4, ga4, gn4, gc4, pa4, pn4, pc4, rfl, _⟩
              try simp only [exT] at e92
              generalize a'.eval = ρ at *
              simp [execOp, go_sem, e92, exT]
            | 6, ho =>
              simp at ho; subst ho
              have e92 : a'.eval (.tmp 92) = r := hvals 4 _ (by kernel_rfl) rfl
              show ∀ S, _ → (execOp a'.eval _).run _ w' = .ok (.value _) w'
              rintro S ⟨la4, ne4, ha4, hn4, hc4, oa4, on4, oc4, fi4, ga4, gn4, gc4, pa4, pn4, pc4, rfl, _⟩
              try simp only [exT] at e92
              generalize a'.eval = ρ at *
              simp [execOp, go_sem, e92, exT]
            | 7, ho =>
              simp at ho; subst ho
              have e92 : a'.eval (.tmp 92) = r := hvals 4 _ (by kernel_rfl) rfl
              show ∀ S, _ → (execOp a'.eval _).run _ w' = .ok (.value _) w'
              rintro S ⟨la4, ne4, ha4, hn4, hc4, oa4, on4, oc4, fi4, ga4, gn4, gc4, pa4, pn4, pc4, rfl, _⟩
              try simp only [exT] at e92
              generalize a'.eval = ρ at *
              simp [execOp, go_sem, e92, exT]
            | 8, ho =>
              simp at ho; subst ho
              show (execOp a'.eval _).run _ w' = .ok (.value _) _
              generalize a'.eval = ρ at *
              simp [execOp, go_sem]
            | 9, ho =>
              simp at ho; subst ho
              have e97 : a'.eval (.tmp 97) = (exT 0) r := hvals 5 _ (by kernel_rfl) rfl
              show ∀ S, _ → ∀ t z g C, _ → _ → _ → _ → ∃ w'', (execOp a'.eval _).run _ w' = .ok .skip w'' ∧ _
              rintro S ⟨la4, ne4, ha4, hn4, hc4, oa4, on4, oc4, fi4, ga4, gn4, gc4, pa4, pn4, pc4, rfl, _⟩ t z g C hz hC hs (eb : a'.eval (.tmp 16) = _)
              cases hz
              obtain ⟨u0, u1, u2, u3, u4, u5, u6, q0, q1, q2, q3, q4, q5, q6⟩ := track_cells7 hC hs
              have p0 := hC.free 0
              have p1 := hC.free 1
              have p2 := hC.free 2
              have p3 := hC.free 3
              have p4 := hC.free 4
              have p5 := hC.free 5
              have p6 := hC.free 6
              obtain ⟨m1, m2, m3⟩ := track_set7 hC hs (.int .i64 la4) (.int .i64 ne4) (.slice ha4 hn4 hc4) (.slice oa4 on4 oc4) (.int .i64 fi4) (.slice ga4 gn4 gc4) (.slice pa4 pn4 pc4)
              simp only [exT] at e97
              generalize a'.eval = ρ at *
              have hB := seven_below (A := g) (Below.refl 0 w') (Nat.zero_le g) (.int .i64 la4) (.int .i64 ne4) (.slice ha4 hn4 hc4) (.slice oa4 on4 oc4) (.int .i64 fi4) (.slice ga4 gn4 gc4) (.slice pa4 pn4 pc4)
              refine ⟨_, ?_, m1, m2, rfl, m3, hB.os, hB.tape, hB.output⟩
              clear m1 m2 m3 hB
              simp [execOp, go_sem, e97, eb, q0, q1, q2, q3, q4, q5, q6, p0, p1, p2, p3, p4, p5, p6]
            | 10, ho =>
              simp at ho; subst ho
              have e98 : a'.eval (.tmp 98) = (exT 1) r := hvals 6 _ (by kernel_rfl) rfl
              show ∀ S, _ → (execOp a'.eval _).run _ w' = .ok (.value _) w'
              rintro S ⟨la4, ne4, ha4, hn4, hc4, oa4, on4, oc4, fi4, ga4, gn4, gc4, pa4, pn4, pc4, rfl, _⟩
              try simp only [exT] at e98
              generalize a'.eval = ρ at *
              simp [execOp, go_sem, e98, exT]
            | 11, ho =>
              simp at ho; subst ho
              have e99 : a'.eval (.tmp 99) = (exT 2) r := hvals 7 _ (by kernel_rfl) rfl
              show ∀ S, _ → (execOp a'.eval _).run _ w' = .ok (.value _) w'
              rintro S ⟨la4, ne4, ha4, hn4, hc4, oa4, on4, oc4, fi4, ga4, gn4, gc4, pa4, pn4, pc4, rfl, _⟩
              try simp only [exT] at e99
              generalize a'.eval = ρ at *
              simp [execOp, go_sem, e99, exT]
            | i + 12, ho => simp at ho
          case fin =>
            rintro r gs Sr W hb ⟨la4, ne4, ha4, hn4, hc4, oa4, on4, oc4, fi4, ga4, gn4, gc4, pa4, pn4, pc4, rfl, h1, h2⟩ hS hbox hap
            obtain ⟨p1, p2, C, p3, p4⟩ := hbox 8 _ _ (by decide) rfl
            have p5 := p4 9 _ (by decide) rfl
            subst p5
            have KN : Blk W (gs 8) #[.int .i64 la4, .int .i64 ne4, .slice ha4 hn4 hc4, .slice oa4 on4 oc4, .int .i64 fi4, .slice ga4 gn4 gc4, .slice pa4 pn4 pc4] 34 := p3
            simp only [putK, Kd.out, exT, Act.put, List.setIfInBounds_toArray, List.set_cons_succ, List.set_cons_zero, List.getElem?_toArray, List.getElem?_cons_zero, List.getElem?_cons_succ, Option.getD_some]
            obtain ⟨bq4, hbq⟩ : ∃ p, p = gs 8 := ⟨_, rfl⟩
            rw [← hbq] at KN p1
            rw [← hbq]
            have G4 : Hid (la4 = D.last ∧ ne4 = D.next ∧ fi4 = D.first ∧ gn4 = D.L.length) := h1
            have TN : TrIn (fun _ => True) W (.slice ha4 hn4 hc4) (.slice oa4 on4 oc4) (.slice ga4 gn4 gc4) (.slice pa4 pn4 pc4) D := h2.mono fun _ _ _ => trivial
            have HS11 : Hid (Stay W _) := ((Stay.go HS10 hb).out.and (KN.stay.and TN.stay))
            clear hbq h1 h2 hS hbox hap p1 p2 p3 p4 hb KN TN HS10 HTR
            clear HF4 HBP HAA
            have BW : Hid (Below X w W) := HS11.out.now.1.1.1.1.2
            obtain ⟨h1, h2, h3⟩ := HO.out
            subst h1 h2
            rcases h3 with ⟨h4, h5, h6, h7, h8⟩ | h3
            · subst h4 h5 h6 h8
              have HSAME : Hid (Calls Try.prog 9 #[.agg #[.int .i64 la2, .int .i64 ne2, .slice ha2 hn2 hc2, .slice oa2 on2 oc2, .int .i64 fi2, .slice ga2 gn2 gc2, .slice pa2 pn2 pc2], .agg #[.int .i64 la4, .int .i64 ne4, .slice ha4 hn4 hc4, .slice oa4 on4 oc4, .int .i64 fi4, .slice ga4 gn4 gc4, .slice pa4 pn4 pc4]] W fun e w' => e = .returned (.bool true) ∧ Below W.heap.size W w') := by
                have q := sameTrack_any B B _ _ _ _ _ _ _ _ W (HS11.out.now.1.1.2.2) HS11.out.now.2.2
                rw [sameTr_refl, ← G2.out.1, ← G2.out.2.1, ← G2.out.2.2.1] at q
                have e1 : la2 = la4 := G2.out.1.trans G4.out.1.symm
                have e2 : ne2 = ne4 := G2.out.2.1.trans G4.out.2.1.symm
                have e3 : fi2 = fi4 := G2.out.2.2.1.trans G4.out.2.2.1.symm
                subst e1 e2 e3
                exact q
              have hwr : IntKind.i64.wrap ((ca : Int) + (cb : Int)) = (cd : Int) := by
                have := HLE.out
                rw [IntKind.wrap_i64]; omega
              have hz0 : (((0 : Nat) : Int) == 0) = true := rfl
              have hcd : (cd : Int) ≤ 200 := by have := HLE.out; omega
              have hcd0 : (0 : Int) ≤ (cd : Int) := by omega
              have hwd : wrap64 (cd : Int) = (cd : Int) := by unfold wrap64; omega
              have hwb : ((ca : Int) + (cb : Int) == (cd : Int)) = true := by simp; omega
              have hwe : (ca : Int) + (cb : Int) = (cd : Int) := by omega
              obtain ⟨y0, y1, y2, y3, y4, y5, y6⟩ := HS11.out.now.1.1.2.1.sevenc
              obtain ⟨z0, z1, z2, z3, z4, z5, z6⟩ := HS11.out.now.2.1.sevenc
              clear HS11 HLE HO G1 G2 G3 G4 h7
              go_wp2_with fail
              refine HSAME.out.mono ?_
              rintro e w9 ⟨rfl, c9⟩
              have BW9 : Hid (Below X w w9) := BW.out.trans (c9.mono (by have := BW.out.size; rw [← HX.out] at this; exact this))
              clear c9
              go_wp2
              go_ret
              exact ⟨rfl, BW9.out⟩
            · clear HS11 HLE HO G1 G2 G3 G4
              by_cases h4 : ea = 2
              · subst h4
                go_wp2
                go_ret
                exact ⟨rfl, BW.out⟩
              · have h5 := h3.resolve_left h4
                subst h5
                go_wp2
                go_ret
                exact ⟨rfl, BW.out⟩

end Go.Proofs.Ytnpaejknoipicag
