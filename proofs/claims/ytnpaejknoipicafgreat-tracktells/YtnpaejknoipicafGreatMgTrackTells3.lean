/-
  Contracts of the document's AllOf, SeekOf.
-/
import Derived.Test.YtnpaejknoipicafGreatMgTrackTells2
import Derived.Test.YtnpaejknoipicafGreatRowAux
import Derived.Test.YtnpaejknoipicafGreatBufPut
import Derived.Deep.Cut
import Derived.Deep.DeepCutAuto
import Derived.Test.YtnpaejknoipicafGreatMgTrackTells1
import Derived.Test.YtnpaejknoipicafGreatCountWalk
import Derived.Deep.QuietTactic
import Derived.Test.YtnpaejknoipicafGreatBufCheck2
import Derived.BigQuiet
import Derived.Deep.RegionWith
import Derived.BigRegion
import Derived.Lib.QuietBelow
import Derived.Test.YtnpaejknoipicafGreatRefFrame
import Derived.Test.YtnpaejknoipicafGreatRefBetween
import Derived.Test.YtnpaejknoipicafGreatAppAny

namespace Go.Proofs.YtnpaejknoipicafGreat
open Go.RowKit

theorem Blk.sevenp {w : World} {b : Nat} {x : Sk} {t : TypeId} (h : Blk w b x.cells t) :
    w.cell? ⟨b, 0, none⟩ = some (.int .i64 x.n) ∧ w.cell? ⟨b, 1, none⟩ = some (.int .i64 x.p.seq) ∧ w.cell? ⟨b, 2, none⟩ = some (.int .i64 x.p.time) ∧ w.cell? ⟨b, 3, none⟩ = some (.bool x.p.f) ∧ w.cell? ⟨b, 4, none⟩ = some (.bool x.p.e) ∧ w.cell? ⟨b, 5, none⟩ = some (.bool x.p.k) ∧ w.cell? ⟨b, 6, none⟩ = some (.string x.p.t) :=
  ⟨h.cell rfl, h.cell rfl, h.cell rfl, h.cell rfl, h.cell rfl, h.cell rfl, h.cell rfl⟩

set_option maxHeartbeats 8000000 in
set_option maxRecDepth 100000 in
theorem tkAdd_any (S : Nat → Prop) (M : Nat) (t : Tr) (c : Int) (x : Sk) (w : World) (hT : TkB S M w t c) (hto : ochk t.o = 0) (hx : x.chk = 0) (hS : ∀ g, w.heap.size ≤ g → S g) (hc0 : 0 ≤ c) (hc1 : c ≤ 1000000) :
    Calls Tryz.prog 158 #[.pointer (some ⟨M, 0, none⟩), x.val] w fun e w' => e = .returned (.int .i64 (tk1 t x).2.2) ∧ TkB S M w' (tk1 t x).1 (c + (tk1 t x).2.1) ∧ Kept [M] w w' := by
  obtain ⟨hv, bv, gv, ov, hM, hr⟩ := hT
  obtain ⟨ha, hc, ba, bc, ga, gc, oa, oc, eh, eb, eg, eo⟩ := hr.slices
  obtain ⟨last, hlast⟩ : ∃ x, x = t.last := ⟨_, rfl⟩
  obtain ⟨next, hnext⟩ : ∃ x, x = t.next := ⟨_, rfl⟩
  obtain ⟨first, hfirst⟩ : ∃ x, x = t.first := ⟨_, rfl⟩
  obtain ⟨hn, hhn⟩ : ∃ x, x = t.h.length := ⟨_, rfl⟩
  obtain ⟨bn, hbn⟩ : ∃ x, x = t.o.length := ⟨_, rfl⟩
  obtain ⟨ln, hln⟩ : ∃ x, x = t.L.length := ⟨_, rfl⟩
  obtain ⟨lo, hlo⟩ : ∃ x, x = t.O.length := ⟨_, rfl⟩
  obtain ⟨B1, hB1⟩ : ∃ E, E = addO t.o x := ⟨_, rfl⟩
  obtain ⟨T1, hT1⟩ : ∃ E, E = addT t.o x := ⟨_, rfl⟩
  obtain ⟨K1, hK1⟩ : ∃ E, E = addK t.o x := ⟨_, rfl⟩
  obtain ⟨P1, hP1⟩ : ∃ E, E = addP t.o x := ⟨_, rfl⟩
  obtain ⟨W1, hW1⟩ : ∃ E, E = addW t.o x := ⟨_, rfl⟩
  obtain ⟨nB, hnB⟩ : ∃ n, n = B1.length := ⟨_, rfl⟩
  obtain ⟨nP, hnP⟩ : ∃ n, n = P1.length := ⟨_, rfl⟩
  have HWW : Hid (W1 = addW t.o x ∧ B1 = addO t.o x ∧ T1 = addT t.o x ∧ K1 = addK t.o x ∧ P1 = addP t.o x) := ⟨hW1, hB1, hT1, hK1, hP1⟩
  have HADDw : Hid (∀ U : World, Below w.heap.size w U → Calls Tryz.prog 46 #[.agg #[bv], .agg #[.int .i64 x.n, .int .i64 x.p.seq, .int .i64 x.p.time, .bool x.p.f, .bool x.p.e, .bool x.p.k, .string x.p.t]] U fun e w' => ∃ va vc qa qc, e = .returned (.tuple #[.agg #[.slice va nB vc], .agg #[.int .i64 T1, .bool K1, .slice qa nP qc], .bool W1, .int .i64 0]) ∧ Hid (SlsIn (fun g => U.heap.size ≤ g) w' (.slice va nB vc) B1) ∧ Hid (StrsIn (fun g => U.heap.size ≤ g) w' (.slice qa nP qc) P1) ∧ Below U.heap.size U w') := fun U hU => by
    obtain ⟨o1, o2, o3⟩ := ochk_len hto
    refine (frameAdd_any bv t.o x U (hr.2.1.below hU).1 (by omega)).mono ?_
    rintro e w' ⟨ov', pv', rfl, ⟨h1, h2, h3, h4⟩, h5⟩
    have e0 : addE t.o x = 0 := by unfold addE; rw [if_pos hto]; exact hx
    have e1 : addR t.o x = ⟨addO t.o x, addT t.o x, addK t.o x, addP t.o x, addW t.o x⟩ := by unfold addR; rw [if_pos e0]
    rw [e1] at h1 h2 ⊢
    simp only at h1 h2 ⊢
    rw [← hB1] at h1
    rw [← hP1] at h2
    obtain ⟨va, vc, ev⟩ := h1.len
    obtain ⟨qa, qc, eq⟩ := h2.len
    rw [← hnB] at ev
    rw [← hnP] at eq
    subst ev eq
    rw [e0, ← hT1, ← hK1, ← hW1]
    have l1 : B1.length ≤ 3 := by rw [hB1]; exact addO_len _ _ o1
    have l2 : P1.length ≤ 4 := by rw [hP1]; exact addP_len _ _ o1
    exact ⟨va, vc, qa, qc, rfl, SlsIn.of h1 (by omega) (fun g hg _ => (h3 g hg).1), ⟨h2, by omega, fun g hg _ => h4 g hg⟩, h5⟩
  rw [← hlast, ← hnext, ← hfirst] at hM
  rw [← hhn] at eh
  rw [← hbn] at eb
  rw [← hln] at eg
  rw [← hlo] at eo
  have HSU : Hid (∀ g, w.heap.size ≤ g → S g) := hS
  have HTT : Hid (last = t.last ∧ next = t.next ∧ first = t.first) := ⟨hlast, hnext, hfirst⟩
  clear hlast hnext hfirst hhn hbn hln hlo hB1 hT1 hK1 hP1 hW1 hnB hnP hS hx hto
  subst eh eb eg eo
  have HMw : Hid (Blk w M #[.int .i64 last, .int .i64 next, .slice ha hn hc, .slice ba bn bc, .int .i64 first, .slice ga ln gc, .slice oa lo oc, .int .i64 c] 167) := hM
  have HRw : Hid (TrIn (fun g => S g ∧ g ≠ M) w (.slice ha hn hc) (.slice ba bn bc) (.slice ga ln gc) (.slice oa lo oc) t) := hr
  have hMw := hM.lt
  clear hM hr
  simp only [Sk.val]
  go_enter Tryz.func158, Tryz.ntmps158
  go_wp2_with fail
  obtain ⟨w0, hw0⟩ : ∃ w0, w0 = w.alloc (.cells #[.int .i64 x.n, .int .i64 x.p.seq, .int .i64 x.p.time, .bool x.p.f, .bool x.p.e, .bool x.p.k, .string x.p.t] 91) := ⟨_, rfl⟩
  have HB0 : Hid (Below w.heap.size w w0) := by rw [hw0]; exact (Below.refl _ _).alloc (Nat.le_refl _) _
  have z0 : w0.heap.size = w.heap.size + 1 := by rw [hw0]; simp
  have HM0 : Hid (Blk w0 M #[.int .i64 last, .int .i64 next, .slice ha hn hc, .slice ba bn bc, .int .i64 first, .slice ga ln gc, .slice oa lo oc, .int .i64 c] 167) := HMw.out.below HB0.out hMw
  have HF0 : Hid (Blk w0 w.heap.size #[.int .i64 x.n, .int .i64 x.p.seq, .int .i64 x.p.time, .bool x.p.f, .bool x.p.e, .bool x.p.k, .string x.p.t] 91) := Blk.newE hw0
  have HR0 : Hid (TrIn (fun g => S g ∧ g ≠ M) w0 (.slice ha hn hc) (.slice ba bn bc) (.slice ga ln gc) (.slice oa lo oc) t) := HRw.out.below HB0.out
  have HADD : Hid (∀ U : World, Below w0.heap.size w0 U → Calls Tryz.prog 46 #[.agg #[.slice ba bn bc], .agg #[.int .i64 x.n, .int .i64 x.p.seq, .int .i64 x.p.time, .bool x.p.f, .bool x.p.e, .bool x.p.k, .string x.p.t]] U fun e w' => ∃ va vc qa qc, e = .returned (.tuple #[.agg #[.slice va nB vc], .agg #[.int .i64 T1, .bool K1, .slice qa nP qc], .bool W1, .int .i64 0]) ∧ Hid (SlsIn (fun g => U.heap.size ≤ g) w' (.slice va nB vc) B1) ∧ Hid (StrsIn (fun g => U.heap.size ≤ g) w' (.slice qa nP qc) P1) ∧ Below U.heap.size U w') := fun U hU => HADDw.out U (HB0.out.trans (hU.mono (by omega)))
  rw [← hw0]
  clear hw0 HMw HRw HADDw
  refine region_main (by kernel_rfl) (by kernel_rfl) [.quiet (.pointer (some ⟨M, 0, none⟩)), .quiet (.pointer (some ⟨M, 0, none⟩)), .quiet (.pointer (some ⟨M, 0, none⟩)), .quiet (.pointer (some ⟨M, 3, none⟩)), .quiet (.agg #[.slice ba bn bc]), .quiet (.agg #[.int .i64 x.n, .int .i64 x.p.seq, .int .i64 x.p.time, .bool x.p.f, .bool x.p.e, .bool x.p.k, .string x.p.t]), .main, .fin (fun r => r), .fin (exT 0), .fin (exT 1), .fin (exT 2), .fin (exT 3), .box 59 #[.slice none 0 0], .box 30 #[.int .i64 0, .bool false, .slice none 0 0], .put 12 (fun r => aggC (exT 0 r)), .put 13 (fun r => aggC (exT 1 r)), .fin (exT 2), .fin (exT 3)] 6 (by kernel_rfl)
    (fun S r w' => ∃ va vc qa qc, r = .tuple #[.agg #[.slice va nB vc], .agg #[.int .i64 T1, .bool K1, .slice qa nP qc], .bool W1, .int .i64 0] ∧ SlsIn (fun g => S g ∧ w0.heap.size ≤ g) w' (.slice va nB vc) B1 ∧ StrsIn (fun g => S g ∧ w0.heap.size ≤ g) w' (.slice qa nP qc) P1) ?loc ?step ?fin
  case loc =>
    rintro S r w1 w3 ⟨va, vc, qa, qc, rfl, h1, h2⟩ hs hsame
    exact ⟨va, vc, qa, qc, rfl, h1.to ⟨hs, fun g hg hS => hsame g hS.1 hg⟩ (fun _ _ h => h), h2.to ⟨hs, fun g hg hS => hsame g hS.1 hg⟩ (fun _ _ h => h)⟩
  case step =>
    intro i o ho a' w' r hb hfree hvals
    have f0 : a'.eval (.tmp 0) = .pointer (some ⟨M, 0, none⟩) := (hfree 0 (by kernel_rfl)).trans rfl
    have f3 : a'.eval (.tmp 3) = .pointer (some ⟨w.heap.size, 0, none⟩) := (hfree 3 (by kernel_rfl)).trans rfl
    obtain ⟨y0, y1, y2, y3, y4, y5, y6, y7⟩ := (HM0.out.below hb HM0.out.lt).eight
    obtain ⟨j0, j1, j2, j3, j4, j5, j6⟩ := (HF0.out.below hb HF0.out.lt).sevenc
    match i, ho with
    | 0, ho =>
      simp at ho; subst ho
      show (execOp a'.eval _).run _ w' = .ok (.value _) w'
      generalize a'.eval = ρ at *
      simp [execOp, go_sem, f0]
    | 1, ho =>
      simp at ho; subst ho
      have e10 : a'.eval (.tmp 10) = .pointer (some ⟨M, 0, none⟩) := hvals 0 _ (by kernel_rfl) rfl
      show (execOp a'.eval _).run _ w' = .ok (.value _) w'
      generalize a'.eval = ρ at *
      simp [execOp, go_sem, e10]
    | 2, ho =>
      simp at ho; subst ho
      have e11 : a'.eval (.tmp 11) = .pointer (some ⟨M, 0, none⟩) := hvals 1 _ (by kernel_rfl) rfl
      show (execOp a'.eval _).run _ w' = .ok (.value _) w'
      generalize a'.eval = ρ at *
      simp [execOp, go_sem, e11]
    | 3, ho =>
      simp at ho; subst ho
      have e12 : a'.eval (.tmp 12) = .pointer (some ⟨M, 0, none⟩) := hvals 2 _ (by kernel_rfl) rfl
      show (execOp a'.eval _).run _ w' = .ok (.value _) w'
      generalize a'.eval = ρ at *
      simp [execOp, go_sem, e12]
    | 4, ho =>
      simp at ho; subst ho
      have e13 : a'.eval (.tmp 13) = .pointer (some ⟨M, 3, none⟩) := hvals 3 _ (by kernel_rfl) rfl
      show (execOp a'.eval _).run _ w' = .ok (.value _) w'
      generalize a'.eval = ρ at *
      simp [execOp, go_sem, e13, y3]
    | 5, ho =>
      simp at ho; subst ho
      show (execOp a'.eval _).run _ w' = .ok (.value _) w'
      generalize a'.eval = ρ at *
      simp [execOp, go_sem, f3, j0, j1, j2, j3, j4, j5, j6]
    | 6, ho =>
      simp at ho; subst ho
      have e14 : a'.eval (.tmp 14) = .agg #[.slice ba bn bc] := hvals 4 _ (by kernel_rfl) rfl
      have e15 : a'.eval (.tmp 15) = .agg #[.int .i64 x.n, .int .i64 x.p.seq, .int .i64 x.p.time, .bool x.p.f, .bool x.p.e, .bool x.p.k, .string x.p.t] := hvals 5 _ (by kernel_rfl) rfl
      have ef : a'.eval (.func 46) = .func (.func 46) #[] #[] := rfl
      show ∃ f args, (execOp a'.eval _).run _ w' = .ok (.enter f args) w' ∧ _
      generalize a'.eval = ρ at *
      refine ⟨46, #[.agg #[.slice ba bn bc], .agg #[.int .i64 x.n, .int .i64 x.p.seq, .int .i64 x.p.time, .bool x.p.f, .bool x.p.e, .bool x.p.k, .string x.p.t]], by simp [execOp, go_sem, e14, e15, ef], ?_⟩
      refine (HADD.out w' hb).mono ?_
      rintro e w'' ⟨va, vc, qa, qc, rfl, h1, h2, hb4⟩
      exact ⟨_, rfl, ⟨va, vc, qa, qc, rfl, h1.out.mono (fun g hl hg => ⟨⟨hl, .inr hg⟩, (by have := hb.size; omega)⟩), h2.out.mono (fun g hl hg => ⟨⟨hl, .inr hg⟩, (by have := hb.size; omega)⟩)⟩, hb4⟩
    | 7, ho =>
      simp at ho; subst ho
      have e16 : a'.eval (.tmp 16) = r := hvals 6 _ (by kernel_rfl) rfl
      show ∀ S, _ → (execOp a'.eval _).run _ w' = .ok (.value _) w'
      rintro S ⟨va, vc, qa, qc, rfl, _, _⟩
      try simp only [exT] at e16
      generalize a'.eval = ρ at *
      simp [execOp, go_sem, e16]
    | 8, ho =>
      simp at ho; subst ho
      have e9 : a'.eval (.tmp 9) = r := hvals 7 _ (by kernel_rfl) rfl
      show ∀ S, _ → (execOp a'.eval _).run _ w' = .ok (.value _) w'
      rintro S ⟨va, vc, qa, qc, rfl, _, _⟩
      try simp only [exT] at e9
      generalize a'.eval = ρ at *
      simp [execOp, go_sem, e9, exT]
    | 9, ho =>
      simp at ho; subst ho
      have e9 : a'.eval (.tmp 9) = r := hvals 7 _ (by kernel_rfl) rfl
      show ∀ S, _ → (execOp a'.eval _).run _ w' = .ok (.value _) w'
      rintro S ⟨va, vc, qa, qc, rfl, _, _⟩
      try simp only [exT] at e9
      generalize a'.eval = ρ at *
      simp [execOp, go_sem, e9, exT]
    | 10, ho =>
      simp at ho; subst ho
      have e9 : a'.eval (.tmp 9) = r := hvals 7 _ (by kernel_rfl) rfl
      show ∀ S, _ → (execOp a'.eval _).run _ w' = .ok (.value _) w'
      rintro S ⟨va, vc, qa, qc, rfl, _, _⟩
      try simp only [exT] at e9
      generalize a'.eval = ρ at *
      simp [execOp, go_sem, e9, exT]
    | 11, ho =>
      simp at ho; subst ho
      have e9 : a'.eval (.tmp 9) = r := hvals 7 _ (by kernel_rfl) rfl
      show ∀ S, _ → (execOp a'.eval _).run _ w' = .ok (.value _) w'
      rintro S ⟨va, vc, qa, qc, rfl, _, _⟩
      try simp only [exT] at e9
      generalize a'.eval = ρ at *
      simp [execOp, go_sem, e9, exT]
    | 12, ho =>
      simp at ho; subst ho
      show (execOp a'.eval _).run _ w' = .ok (.value _) _
      generalize a'.eval = ρ at *
      simp [execOp, go_sem]
    | 13, ho =>
      simp at ho; subst ho
      show (execOp a'.eval _).run _ w' = .ok (.value _) _
      generalize a'.eval = ρ at *
      simp [execOp, go_sem]
    | 14, ho =>
      simp at ho; subst ho
      have e17 : a'.eval (.tmp 17) = (exT 0) r := hvals 8 _ (by kernel_rfl) rfl
      show ∀ S, _ → ∀ t z g C, _ → _ → _ → _ → ∃ w'', (execOp a'.eval _).run _ w' = .ok .skip w'' ∧ _
      rintro S ⟨va, vc, qa, qc, rfl, _, _⟩ t z g C hz hC hs (eb : a'.eval (.tmp 5) = _)
      cases hz
      obtain ⟨u0, q0⟩ := cells1 hC hs
      have p0 := hC.free 0
      obtain ⟨m1, m2, m3⟩ := set1 hC hs (.slice va nB vc)
      simp only [exT] at e17
      generalize a'.eval = ρ at *
      exact ⟨_, by simp [execOp, go_sem, e17, eb, q0, p0], m1, m2, rfl, m3, rfl, rfl, rfl⟩
    | 15, ho =>
      simp at ho; subst ho
      have e18 : a'.eval (.tmp 18) = (exT 1) r := hvals 9 _ (by kernel_rfl) rfl
      show ∀ S, _ → ∀ t z g C, _ → _ → _ → _ → ∃ w'', (execOp a'.eval _).run _ w' = .ok .skip w'' ∧ _
      rintro S ⟨va, vc, qa, qc, rfl, _, _⟩ t z g C hz hC hs (eb : a'.eval (.tmp 6) = _)
      cases hz
      obtain ⟨u0, u1, u2, q0, q1, q2⟩ := cells3 hC hs
      have p0 := hC.free 0
      have p1 := hC.free 1
      have p2 := hC.free 2
      obtain ⟨m1, m2, m3⟩ := set3 hC hs (.int .i64 T1) (.bool K1) (.slice qa nP qc)
      simp only [exT] at e18
      generalize a'.eval = ρ at *
      exact ⟨_, by simp [execOp, go_sem, e18, eb, q0, q1, q2, p0, p1, p2], m1, m2, rfl, m3, rfl, rfl, rfl⟩
    | 16, ho =>
      simp at ho; subst ho
      have e19 : a'.eval (.tmp 19) = (exT 2) r := hvals 10 _ (by kernel_rfl) rfl
      show ∀ S, _ → (execOp a'.eval _).run _ w' = .ok (.value _) w'
      rintro S ⟨va, vc, qa, qc, rfl, _, _⟩
      try simp only [exT] at e19
      generalize a'.eval = ρ at *
      simp [execOp, go_sem, e19, exT]
    | 17, ho =>
      simp at ho; subst ho
      have e20 : a'.eval (.tmp 20) = (exT 3) r := hvals 11 _ (by kernel_rfl) rfl
      show ∀ S, _ → (execOp a'.eval _).run _ w' = .ok (.value _) w'
      rintro S ⟨va, vc, qa, qc, rfl, _, _⟩
      try simp only [exT] at e20
      generalize a'.eval = ρ at *
      simp [execOp, go_sem, e20, exT]
    | i + 18, ho => simp at ho
  case fin =>
    rintro r gs Sr W hb ⟨va, vc, qa, qc, rfl, h1, h2⟩ hS hbox hap
    obtain ⟨p1, p2, C, p3, p4⟩ := hbox 12 _ _ (by decide) rfl
    have p5 := p4 14 _ (by decide) rfl
    subst p5
    obtain ⟨o1, o2, C', o3, o4⟩ := hbox 13 _ _ (by decide) rfl
    have o5 := o4 15 _ (by decide) rfl
    subst o5
    have KP : Hid (Blk W (gs 12) #[.slice va nB vc] 59) := p3
    have KO : Hid (Blk W (gs 13) #[.int .i64 T1, .bool K1, .slice qa nP qc] 30) := o3
    simp only [putK, Kd.out, exT, Act.put, List.setIfInBounds_toArray, List.set_cons_succ, List.set_cons_zero, List.getElem?_toArray, List.getElem?_cons_zero, List.getElem?_cons_succ, Option.getD_some]
    obtain ⟨p, hp⟩ : ∃ p, p = gs 12 := ⟨_, rfl⟩
    obtain ⟨o, ho⟩ : ∃ p, p = gs 13 := ⟨_, rfl⟩
    rw [← hp] at KP p1
    rw [← ho] at KO o1
    rw [← hp, ← ho]
    have HBW : Hid (Below w0.heap.size w0 W) := hb
    have H1 : Hid (SlsIn (fun g => w0.heap.size ≤ g) W (.slice va nB vc) B1) := h1.mono fun _ _ h => h.2
    have H2 : Hid (StrsIn (fun g => w0.heap.size ≤ g) W (.slice qa nP qc) P1) := h2.mono fun _ _ h => h.2
    clear hp ho h1 h2 hS hbox hap p2 p3 p4 o2 o3 o4 hb
    have HMW : Hid (Blk W M #[.int .i64 last, .int .i64 next, .slice ha hn hc, .slice ba bn bc, .int .i64 first, .slice ga ln gc, .slice oa lo oc, .int .i64 c] 167) := HM0.out.below HBW.out HM0.out.lt
    have HRW : Hid (TrIn (fun g => S g ∧ g ≠ M) W (.slice ha hn hc) (.slice ba bn bc) (.slice ga ln gc) (.slice oa lo oc) t) := HR0.out.below HBW.out
    have x0 := KP.out.one
    obtain ⟨y0, y1, y2, y3, y4, y5, y6, y7⟩ := HMW.out.eight
    have fM := HMW.out.free
    have lM := HMW.out.lt
    have hpM : ¬ p = M := by omega
    have hoM : ¬ o = M := by omega
    obtain ⟨V, hV⟩ : ∃ V, V = W.setCell ⟨M, 3, none⟩ (.slice va nB vc) := ⟨_, rfl⟩
    have hVo : ∀ g, g ≠ M → V.heap[g]? = W.heap[g]? := fun g hg => by
      rw [hV, Below.heap_setCell _ _ _ _ (by exact hg)]
    have hVs : V.heap.size = W.heap.size := by rw [hV]; simp
    have HMV : Hid (Blk V M #[.int .i64 last, .int .i64 next, .slice ha hn hc, .slice va nB vc, .int .i64 first, .slice ga ln gc, .slice oa lo oc, .int .i64 c] 167) := by
      have := HMW.out.set 3 (.slice va nB vc)
      rw [hV]; simpa [Hid] using this
    have HKV : Hid (Kept [M] w V) := by
      rw [hV]
      have k := (Kept.refl [M] w).below (HB0.out.trans (HBW.out.mono HB0.out.size))
      exact k.setCell (p := ⟨M, 3, none⟩) (by simp) _
    have KOV : Hid (Blk V o #[.int .i64 T1, .bool K1, .slice qa nP qc] 30) := (hVo o hoM).trans KO.out
    have HTV : Hid (TkB S M V ⟨t.last, t.next, t.h, B1, t.first, t.L, t.O⟩ c) := by
      have so : SameOn (fun g => g ≠ M) W V := ⟨by omega, fun g _ hg => hVo g hg⟩
      have hsz := HB0.out.size
      refine ⟨_, _, _, _, by rw [HTT.out.1, HTT.out.2.1, HTT.out.2.2] at HMV; exact HMV.out, HRW.out.1.to (so.mono fun g h => h.2) (fun _ _ h => h), H1.out.to (so.mono fun g h => by omega) (fun g _ h => ⟨HSU.out g (by omega), by omega⟩), HRW.out.2.2.1.to (so.mono fun g h => h.2) (fun _ _ h => h), HRW.out.2.2.2.to (so.mono fun g h => h.2) (fun _ _ h => h)⟩
    have HPV : Hid (StrsIn (fun _ => True) V (.slice qa nP qc) P1) := by
      have so : SameOn (fun g => g ≠ M) W V := ⟨by omega, fun g _ hg => hVo g hg⟩
      exact H2.out.to (so.mono fun g h => by omega) (fun _ _ _ => trivial)
    have hsV : w.heap.size ≤ V.heap.size := HKV.out.size
    clear hVo hVs H1 H2 HRW HMW
    cases W1
    case false =>
      have h1 : tk1 t x = (⟨t.last, t.next, t.h, B1, t.first, t.L, t.O⟩, 0, 0) := by
        have hw := HWW.out
        unfold tk1; rw [← hw.1, ← hw.2.1]; rfl
      have HH1 : Hid (tk1 t x = (⟨t.last, t.next, t.h, B1, t.first, t.L, t.O⟩, 0, 0)) := h1
      clear h1
      go_wp2_with fail
      rw [← hV]
      go_wp2
      go_ret
      rw [HH1.out]
      exact ⟨rfl, by simpa using HTV.out, HKV.out⟩
    case true =>
      have h1 : tk1 t x = (⟨t.last, t.next, t.h, B1, addsF t.first t.L t.O ⟨T1, K1, P1⟩, addsL t.first t.L t.O ⟨T1, K1, P1⟩, addsO t.first t.L t.O ⟨T1, K1, P1⟩⟩, if addsB t.first t.L t.O ⟨T1, K1, P1⟩ then 1 else 0, addsE t.first t.L t.O ⟨T1, K1, P1⟩) := by
        have hw := HWW.out
        unfold tk1; rw [← hw.1, ← hw.2.1]; unfold addF; rw [← hw.2.2.1, ← hw.2.2.2.1, ← hw.2.2.2.2]; rfl
      have HH1 : Hid (tk1 t x = (⟨t.last, t.next, t.h, B1, addsF t.first t.L t.O ⟨T1, K1, P1⟩, addsL t.first t.L t.O ⟨T1, K1, P1⟩, addsO t.first t.L t.O ⟨T1, K1, P1⟩⟩, if addsB t.first t.L t.O ⟨T1, K1, P1⟩ then 1 else 0, addsE t.first t.L t.O ⟨T1, K1, P1⟩)) := h1
      have HKEEP : Hid (Calls Tryz.prog 169 #[.pointer (some ⟨M, 0, none⟩), .agg #[.int .i64 T1, .bool K1, .slice qa nP qc]] V fun e w' => e = .returned (.int .i64 (addsE t.first t.L t.O ⟨T1, K1, P1⟩)) ∧ TkB S M w' ⟨t.last, t.next, t.h, B1, addsF t.first t.L t.O ⟨T1, K1, P1⟩, addsL t.first t.L t.O ⟨T1, K1, P1⟩, addsO t.first t.L t.O ⟨T1, K1, P1⟩⟩ (c + (if addsB t.first t.L t.O ⟨T1, K1, P1⟩ then (1 : Nat) else 0)) ∧ Kept [M] V w') :=
        tkKeep_any S M _ c ⟨T1, K1, P1⟩ _ V HTV.out HPV.out (fun g hg => HSU.out g (by omega)) hc0 hc1
      obtain ⟨E9, hE9⟩ : ∃ e, e = addsE t.first t.L t.O ⟨T1, K1, P1⟩ := ⟨_, rfl⟩
      obtain ⟨C9, hC9⟩ : ∃ e : Int, e = c + (if addsB t.first t.L t.O ⟨T1, K1, P1⟩ then (1 : Nat) else 0) := ⟨_, rfl⟩
      obtain ⟨T9, hT9⟩ : ∃ e : Tr, e = ⟨t.last, t.next, t.h, B1, addsF t.first t.L t.O ⟨T1, K1, P1⟩, addsL t.first t.L t.O ⟨T1, K1, P1⟩, addsO t.first t.L t.O ⟨T1, K1, P1⟩⟩ := ⟨_, rfl⟩
      have HC9 : Hid (C9 = c + (if addsB t.first t.L t.O ⟨T1, K1, P1⟩ then (1 : Nat) else 0)) := hC9
      rw [← hE9, ← hC9, ← hT9] at HKEEP
      rw [← hE9, ← hT9] at HH1
      clear h1 hE9 hC9 hT9 HTV HPV
      go_upto_region 4 with fail
      rw [← hV]
      clear hV x0 y0 y1 y2 y3 y4 y5 y6 y7 fM lM
      obtain ⟨f0, f1, f2⟩ := KOV.out.three
      go_wp2_with fail
      refine HKEEP.out.mono ?_
      rintro e w9 ⟨rfl, t9, k9⟩
      have T9' : Hid (TkB S M w9 T9 C9) := t9
      have K9 : Hid (Kept [M] w w9) := HKV.out.trans k9
      clear t9 k9 f0 f1 f2
      go_wp2
      go_ret
      rw [HH1.out]
      refine ⟨rfl, ?_, K9.out⟩
      have := T9'.out
      rw [HC9.out] at this
      simpa using this

end Go.Proofs.YtnpaejknoipicafGreat

namespace Go.Proofs.YtnpaejknoipicafGreat
open Go.RowKit

def StayK (S : List Nat) (w : World) (P : World → Prop) : Prop := ∀ w', Kept S w w' → P w'
theorem StayK.now {S : List Nat} {w : World} {P : World → Prop} (h : StayK S w P) : P w := h w (Kept.refl _ _)
theorem StayK.step {S : List Nat} {w w' : World} {P : World → Prop} (h : StayK S w P) (hk : Kept S w w') : StayK S w' P := fun w'' h2 => h w'' (hk.trans h2)
theorem StayK.go {S : List Nat} {w w' : World} {P : World → Prop} (h : Hid (StayK S w P)) (hk : Below w.heap.size w w') : Hid (StayK S w' P) := StayK.step h ((Kept.refl _ _).below hk)
theorem StayK.goK {S : List Nat} {w w' : World} {P : World → Prop} (h : Hid (StayK S w P)) (hk : Kept S w w') : Hid (StayK S w' P) := StayK.step h hk
theorem StayK.allocE {S : List Nat} {w W : World} {P : World → Prop} {o : Obj} (h : Hid (StayK S w P)) (e : W = w.alloc o) : Hid (StayK S W P) := by subst e; exact StayK.step h ((Kept.refl _ _).alloc _)
theorem StayK.and {S : List Nat} {w : World} {P Q : World → Prop} (h : StayK S w P) (k : StayK S w Q) : StayK S w (fun U => P U ∧ Q U) := fun w' hb => ⟨h w' hb, k w' hb⟩
theorem Stay.toK {w W : World} {P : World → Prop} {o : Obj} (h : Stay w P) (e : W = w.alloc o) : StayK [w.heap.size] W P := by
  subst e
  intro w' hk
  refine h w' (((Below.refl _ w).alloc (Nat.le_refl _) o).trans ?_)
  exact hk.toBelow (by simp) (fun k hk => by simp at hk; omega)
theorem Kept.sameOn {S : List Nat} {X : Nat → Prop} {w w' : World} (h : Kept S w w') (hx : ∀ g, X g → g ∉ S) : SameOn X w w' := ⟨h.size, fun g hg hX => h.block g hg (hx g hX)⟩
theorem Blk.stayK {S : List Nat} {w : World} {b : Nat} {C : Array Value} {t : TypeId} (h : Blk w b C t) (hS : b ∉ S) : StayK S w (fun U => Blk U b C t) := fun _ hk => h.kept hk hS
theorem FrsIn.stayK {S : List Nat} {X : Nat → Prop} {w : World} {v : Value} {l : List Fr} (h : FrsIn X w v l) (hx : ∀ g, X g → g ∉ S) : StayK S w (fun U => FrsIn X U v l) := fun _ hk => h.to (hk.sameOn hx) fun _ _ h => h
theorem StrsIn.stayK {S : List Nat} {X : Nat → Prop} {w : World} {v : Value} {l : List ByteArray} (h : StrsIn X w v l) (hx : ∀ g, X g → g ∉ S) : StayK S w (fun U => StrsIn X U v l) := fun _ hk => h.to (hk.sameOn hx) fun _ _ h => h
theorem GrsIn.stayK {S : List Nat} {X : Nat → Prop} {w : World} {v : Value} {l : List (List Fr)} (h : GrsIn X w v l) (hx : ∀ g, X g → g ∉ S) : StayK S w (fun U => GrsIn X U v l) := fun _ hk => h.to (hk.sameOn hx) fun _ _ h => h
theorem below_stayK {S : List Nat} {B : Nat} {a w : World} (h : Below B a w) (hB : B ≤ w.heap.size) (hS : ∀ k ∈ S, B ≤ k) : StayK S w (fun U => Below B a U) := fun _ hk => h.trans (hk.toBelow hB hS)

/-- three cells are put in three others' place -/
theorem Blk.put3 {w : World} {b : Nat} {x0 x1 x2 : Value} {t : TypeId} (h : Blk w b #[x0, x1, x2] t) (y0 y1 y2 : Value) : Blk (((w.setCell ⟨b, 0, none⟩ y0).setCell ⟨b, 1, none⟩ y1).setCell ⟨b, 2, none⟩ y2) b #[y0, y1, y2] t := ((h.set 0 y0).set 1 y1).set 2 y2
theorem Kept.put3 {S : List Nat} {a w : World} {b : Nat} (h : Kept S a w) (hb : b ∈ S) (y0 y1 y2 : Value) : Kept S a (((w.setCell ⟨b, 0, none⟩ y0).setCell ⟨b, 1, none⟩ y1).setCell ⟨b, 2, none⟩ y2) := ((h.setCell (p := ⟨b, 0, none⟩) hb y0).setCell (p := ⟨b, 1, none⟩) hb y1).setCell (p := ⟨b, 2, none⟩) hb y2

end Go.Proofs.YtnpaejknoipicafGreat

namespace Go.Proofs.YtnpaejknoipicafGreat
open Go.RowKit

theorem SlsIn.kept {S : Nat → Prop} {K : List Nat} {w w' : World} {v : Value} {l : List Sk} (h : SlsIn S w v l) (hk : Kept K w w') (hS : ∀ g, S g → g ∉ K) : SlsIn S w' v l := h.to ⟨hk.size, fun g hg hs => hk.block g hg (hS g hs)⟩ (fun _ _ h => h)
theorem SlsIn.at {S : Nat → Prop} {w : World} {ao : Option Addr} {n c k : Nat} {l : List Sk} (h : SlsIn S w (.slice ao n c) l) (hk : k < l.length) : ∃ b off, ao = some ⟨b, off, none⟩ ∧ b < w.heap.size ∧ At7 w b (off + k * 7) (l[k]?.getD Sk.zero) := by
  obtain ⟨ao', c', e, hc⟩ := h.1.parts
  injection e with e1 _ _
  subst e1
  exact hc k hk
theorem tkN_drop {l : List Sk} {k : Nat} (hk : k < l.length) (s : Tr × Nat) : tkN (l.drop k) s = if (tk1 s.1 (l[k]?.getD Sk.zero)).2.2 = 0 then tkN (l.drop (k + 1)) ((tk1 s.1 (l[k]?.getD Sk.zero)).1, s.2 + (tk1 s.1 (l[k]?.getD Sk.zero)).2.1) else (Tr.zero, 0, (tk1 s.1 (l[k]?.getD Sk.zero)).2.2) := by
  rw [List.drop_eq_getElem_cons hk, List.getElem?_eq_getElem hk, Option.getD_some]
  rfl
theorem tk1_le (t : Tr) (x : Sk) : (tk1 t x).2.1 ≤ 1 := by
  unfold tk1
  cases addW t.o x
  · exact Nat.zero_le _
  · simp only [if_true]
    split <;> omega

set_option maxHeartbeats 8000000 in
set_option maxRecDepth 100000 in
theorem tkPass_any (S : Nat → Prop) (M : Nat) (t : Tr) (c : Nat) (next' : Int) (hv' v : Value) (h' l : List Sk) (w : World) (hT : TkB S M w t c) (hok : TkOk t) (hh : SlsIn (fun g => S g ∧ g ≠ M) w hv' h') (hv : SlsIn (fun g => g ≠ M) w v l) (hl : ∀ x ∈ l, x.chk = 0) (hlen : l.length ≤ 100) (hS : ∀ g, w.heap.size ≤ g → S g) (hc : c ≤ 1000) :
    Calls Tryz.prog 112 #[.pointer (some ⟨M, 0, none⟩), .agg #[.int .i64 next', hv'], v, .int .i64 0] w fun e w' => e = .returned (.int .i64 (tkN l (t.buf t.last next' h', c)).2.2) ∧ ((tkN l (t.buf t.last next' h', c)).2.2 = 0 → TkB S M w' (tkN l (t.buf t.last next' h', c)).1 ((tkN l (t.buf t.last next' h', c)).2.1 : Nat)) ∧ Kept [M] w w' := by
  obtain ⟨hv0, bv, gv, ov, hM, hr⟩ := hT
  obtain ⟨ha, hcc, ba, bc, ga, gc, oa, oc, eh, eb, eg, eo⟩ := hr.slices
  obtain ⟨na, nc, en⟩ := hh.len
  obtain ⟨va, vc, ev⟩ := hv.len
  obtain ⟨n, hn⟩ : ∃ x, x = l.length := ⟨_, rfl⟩
  obtain ⟨nh, hnh⟩ : ∃ x, x = h'.length := ⟨_, rfl⟩
  obtain ⟨last, hlast⟩ : ∃ x, x = t.last := ⟨_, rfl⟩
  obtain ⟨next, hnext⟩ : ∃ x, x = t.next := ⟨_, rfl⟩
  obtain ⟨first, hfirst⟩ : ∃ x, x = t.first := ⟨_, rfl⟩
  obtain ⟨hn0, hhn⟩ : ∃ x, x = t.h.length := ⟨_, rfl⟩
  obtain ⟨bn, hbn⟩ : ∃ x, x = t.o.length := ⟨_, rfl⟩
  obtain ⟨ln, hln⟩ : ∃ x, x = t.L.length := ⟨_, rfl⟩
  obtain ⟨lo, hlo⟩ : ∃ x, x = t.O.length := ⟨_, rfl⟩
  obtain ⟨R, hR⟩ : ∃ x, x = tkN l (t.buf t.last next' h', c) := ⟨_, rfl⟩
  rw [← hn] at ev hlen
  rw [← hnh] at en
  rw [← hlast, ← hnext, ← hfirst] at hM
  rw [← hhn] at eh
  rw [← hbn] at eb
  rw [← hln] at eg
  rw [← hlo] at eo
  have HN : Hid (n = l.length) := hn
  have HSU : Hid (∀ g, w.heap.size ≤ g → S g) := hS
  have HTT : Hid (last = t.last ∧ next = t.next ∧ first = t.first) := ⟨hlast, hnext, hfirst⟩
  have HRR : Hid (R = tkN (l.drop 0) (t.buf t.last next' h', c)) := by rw [List.drop_zero]; exact hR
  have HCH : Hid (∀ x ∈ l, x.chk = 0) := hl
  have HOK : Hid (TkOk t) := hok
  rw [← hR]
  clear hn hnh hlast hnext hfirst hhn hbn hln hlo hR hS hl hok
  subst eh eb eg eo en ev
  have HMw : Hid (Blk w M #[.int .i64 last, .int .i64 next, .slice ha hn0 hcc, .slice ba bn bc, .int .i64 first, .slice ga ln gc, .slice oa lo oc, .int .i64 c] 167) := hM
  have HRw : Hid (TrIn (fun g => S g ∧ g ≠ M) w (.slice ha hn0 hcc) (.slice ba bn bc) (.slice ga ln gc) (.slice oa lo oc) t) := hr
  have HHw : Hid (SlsIn (fun g => S g ∧ g ≠ M) w (.slice na nh nc) h') := hh
  have HVw : Hid (SlsIn (fun g => g ≠ M) w (.slice va n vc) l) := hv
  have hMw := hM.lt
  clear hM hr hh hv
  go_enter Tryz.func112, Tryz.ntmps112
  obtain ⟨y0, y1, y2, y3, y4, y5, y6, y7⟩ := HMw.out.eight
  have fM := HMw.out.free
  obtain ⟨V, hV⟩ : ∃ V, V = ((w.setCell ⟨M, 1, none⟩ (.int .i64 next')).setCell ⟨M, 2, none⟩ (.slice na nh nc)).alloc (.cells #[.int .i64 next', .slice na nh nc] 57) := ⟨_, rfl⟩
  have HKV : Hid (Kept [M] w V) := by
    rw [hV]; exact (((Kept.refl [M] w).setCell (p := ⟨M, 1, none⟩) (by simp) _).setCell (p := ⟨M, 2, none⟩) (by simp) _).alloc _
  have HTV : Hid (TkB S M V (t.buf t.last next' h') c) := by
    have hm := ((HMw.out.set 1 (.int .i64 next')).set 2 (.slice na nh nc)).alloc (.cells #[.int .i64 next', .slice na nh nc] 57)
    rw [← hV, HTT.out.1, HTT.out.2.2] at hm
    have so : SameOn (fun g => S g ∧ g ≠ M) w V := ⟨HKV.out.size, fun g hg h => HKV.out.block g hg (by simp; exact h.2)⟩
    exact ⟨_, _, _, _, by simpa [Tr.buf] using hm, HHw.out.to so (fun _ _ h => h), HRw.out.2.1.to so (fun _ _ h => h), HRw.out.2.2.1.to so (fun _ _ h => h), HRw.out.2.2.2.to so (fun _ _ h => h)⟩
  have HVV : Hid (SlsIn (fun g => g ≠ M) V (.slice va n vc) l) := HVw.out.kept HKV.out (fun g h => by simpa using h)
  have hsV : w.heap.size ≤ V.heap.size := HKV.out.size
  clear HMw HRw HHw HVw HTT
  go_wp2_with fail
  rw [← hV]
  clear hV y0 y1 y2 y3 y4 y5 y6 y7 fM hMw
  go_loopw [19] (fun i wr => ∃ (k : Nat) (tk : Tr) (ck : Nat), k ≤ n ∧ i = .int .i64 k ∧ Hid (TkB S M wr tk ck) ∧ Hid (TkOk tk) ∧ Hid (R = tkN (l.drop k) (tk, ck)) ∧ ck ≤ c + k ∧ Hid (Kept [M] V wr))
    (fun i _ => n - (intOf i).toNat)
  case atStart => exact ⟨0, _, c, Nat.zero_le _, rfl, HTV.out, HOK.out, HRR.out, by omega, Kept.refl _ _⟩
  case round =>
    obtain ⟨k, tk, ck, hk, rfl, HT, HO, HR, hck, HK⟩ := hrel
    clear HTV HRR HOK
    by_cases hlt : k < n
    · have hlti : (k : Int) < (n : Int) := by omega
      have hkl : k < l.length := by rw [← HN.out]; exact hlt
      have HVr : Hid (SlsIn (fun g => g ≠ M) wr (.slice va n vc) l) := HVV.out.kept HK.out (fun g h => by simpa using h)
      obtain ⟨b, off, e1, hb, d0, d1, d2, d3, d4, d5, d6⟩ := HVr.out.at hkl
      obtain ⟨x, hx⟩ : ∃ x, x = l[k]?.getD Sk.zero := ⟨_, rfl⟩
      rw [← hx] at d0 d1 d2 d3 d4 d5 d6
      have hxc : x.chk = 0 := by
        rw [hx, List.getElem?_eq_getElem hkl, Option.getD_some]; exact HCH.out _ (List.getElem_mem _)
      have hs9 : w.heap.size ≤ wr.heap.size := Nat.le_trans hsV HK.out.size
      obtain ⟨E, hE⟩ : ∃ e, e = (tk1 tk x).2.2 := ⟨_, rfl⟩
      have HRX : Hid (R = if E = 0 then tkN (l.drop (k + 1)) ((tk1 tk x).1, ck + (tk1 tk x).2.1) else (Tr.zero, 0, E)) := by
        show R = _
        rw [HR.out, tkN_drop hkl, ← hx, ← hE]
      have HADD : Hid (∀ W : World, Below wr.heap.size wr W → Calls Tryz.prog 158 #[.pointer (some ⟨M, 0, none⟩), .agg #[.int .i64 x.n, .int .i64 x.p.seq, .int .i64 x.p.time, .bool x.p.f, .bool x.p.e, .bool x.p.k, .string x.p.t]] W fun e w' => e = .returned (.int .i64 E) ∧ Hid (TkB S M w' (tk1 tk x).1 (ck + (tk1 tk x).2.1 : Nat)) ∧ Hid (Kept [M] V w')) := fun W hW => by
        have hsz := hW.size
        refine (tkAdd_any S M tk ck x W (HT.out.below hW) HO.out.1 hxc (fun g hg => HSU.out g (by omega)) (by omega) (by omega)).mono ?_
        rintro e w' ⟨rfl, h2, h3⟩
        rw [hE]
        exact ⟨rfl, by simpa [Hid] using h2, (HK.out.below hW).trans h3⟩
      have HO2 : Hid (E = 0 → TkOk (tk1 tk x).1) := fun h => by
        rcases tk1_ok HO.out hxc with ⟨_, h'⟩ | h'
        · exact h'
        · rw [← hE, h] at h'; cases h'
      have hle := tk1_le tk x
      subst e1
      clear hx hE HR HT HO hxc
      go_upto_region 5 with fail
      obtain ⟨W1, hW1⟩ : ∃ X, X = wr.alloc (.cells #[.int .i64 x.n, .int .i64 x.p.seq, .int .i64 x.p.time, .bool x.p.f, .bool x.p.e, .bool x.p.k, .string x.p.t] 91) := ⟨_, rfl⟩
      have HB1 : Hid (Below wr.heap.size wr W1) := by rw [hW1]; exact (Below.refl _ _).alloc (Nat.le_refl _) _
      have KX : Hid (Blk W1 wr.heap.size #[.int .i64 x.n, .int .i64 x.p.seq, .int .i64 x.p.time, .bool x.p.f, .bool x.p.e, .bool x.p.k, .string x.p.t] 91) := Blk.newE hW1
      rw [← hW1]
      clear hW1 d0 d1 d2 d3 d4 d5 d6 hb HVr
      obtain ⟨d0, d1, d2, d3, d4, d5, d6⟩ := KX.out.sevenc
      go_wp2_with fail
      refine (HADD.out W1 HB1.out).mono ?_
      rintro e w2 ⟨rfl, HT2, HK2⟩
      clear d0 d1 d2 d3 d4 d5 d6 KX HB1 HADD
      by_cases hE0 : E = 0
      · have HRX' : Hid (R = tkN (l.drop (k + 1)) ((tk1 tk x).1, ck + (tk1 tk x).2.1)) := by show R = _; rw [HRX.out, if_pos hE0]
        have HO3 : Hid (TkOk (tk1 tk x).1) := HO2.out hE0
        clear HRX HO2
        subst hE0
        go_wp2_with fail
        go_roundw
        case rel => exact ⟨k + 1, _, _, by omega, by go_num, HT2.out, HO3.out, HRX'.out, by omega, HK2.out⟩
        case measure => simp [intOf]; omega
      · have HRX' : Hid (R = (Tr.zero, 0, E)) := by show R = _; rw [HRX.out, if_neg hE0]
        clear HRX HO2
        go_wp2
        go_ret
        rw [HRX'.out]
        exact ⟨rfl, fun h => absurd h hE0, HKV.out.trans HK2.out⟩
    · have hkn : k = n := by omega
      subst hkn
      have HRX' : Hid (R = (tk, ck, 0)) := by
        show R = _
        rw [HR.out, HN.out, List.drop_length]; rfl
      clear HR
      go_wp2
      go_ret
      rw [HRX'.out]
      exact ⟨rfl, fun _ => HT.out, HKV.out.trans HK.out⟩

end Go.Proofs.YtnpaejknoipicafGreat

namespace Go.Proofs.YtnpaejknoipicafGreat
open Go.RowKit

/-- the law's own slot -/
def lsk (n time : Int) (f e k : Bool) : Sk := ⟨n, ⟨n % 65536, time, f, e, k, ⟨#[116]⟩⟩⟩

set_option maxHeartbeats 400000 in
theorem lslot_any (n time : Int) (f e k : Bool) (w : World) (hn1 : 0 ≤ n) (hn2 : n ≤ 1000000000) :
    Calls Tryz.prog 47 #[.int .i64 n, .int .i64 time, .bool f, .bool e, .bool k] w fun r w' => r = .returned (lsk n time f e k).val ∧ Below w.heap.size w w' := by
  simp only [lsk, Sk.val]
  go_enter Tryz.func47, Tryz.ntmps47
  go_wp2
  exact bodyPost_ret (v := .agg #[.int .i64 n, .int .i64 (n % 65536), .int .i64 time, .bool f, .bool e, .bool k, .string ⟨#[116]⟩]) (by simp [results, Tryz.results47, go_sem]) rfl ⟨rfl, by go_grown⟩

end Go.Proofs.YtnpaejknoipicafGreat

namespace Go.Proofs.YtnpaejknoipicafGreat
open Go.RowKit

/-- Put, whatever it is handed -/
theorem bufPut_any (next : Int) (v : Value) (l : List Sk) (x : Sk) (w : World) (hv : Sls w v l) (hlen : l.length ≤ 9223372036854775807) :
    Calls Tryz.prog 113 #[.agg #[.int .i64 next, v], x.val] w fun e w' => ∃ hv' ov', e = .returned (.tuple #[.agg #[.int .i64 (putR next l x).1, hv'], ov', .int .i64 (putE next l x)]) ∧
      Fresh w.heap.size w' hv' (putR next l x).2.1 ∧ Fresh w.heap.size w' ov' (putR next l x).2.2 ∧ Below w.heap.size w w' := by
  by_cases hE : putE next l x = 0
  · have hp : pchk next l = 0 := by
      unfold putE at hE
      by_cases h : pchk next l = 0
      · exact h
      · rw [if_neg h] at hE; exact absurd hE h
    have hx : x.chk = 0 := by unfold putE at hE; rw [if_pos hp] at hE; exact hE
    have hr : putR next l x = putF next l x := by unfold putR; rw [if_pos hE]
    rw [hE, hr]
    exact bufPut_ok next v l x w hv ((pchk_right next l).1 hp) hx
  · have hr : putR next l x = (0, [], []) := by unfold putR; rw [if_neg hE]
    rw [hr]
    refine (bufPut_no next v l x w hv hlen hE).mono ?_
    rintro e w' ⟨rfl, hb⟩
    exact ⟨_, _, rfl, Fresh.nil _ _, Fresh.nil _ _, hb⟩
theorem bufFlush_any (next : Int) (v : Value) (l : List Sk) (w : World) (hv : Sls w v l) (hlen : l.length ≤ 9223372036854775807) :
    Calls Tryz.prog 114 #[.agg #[.int .i64 next, v]] w fun e w' => ∃ hv' ov', e = .returned (.tuple #[.agg #[.int .i64 (flushR next l).1, hv'], ov', .int .i64 (pchk next l)]) ∧
      Fresh w.heap.size w' hv' (flushR next l).2.1 ∧ Fresh w.heap.size w' ov' (flushR next l).2.2 ∧ Below w.heap.size w w' := by
  by_cases hE : pchk next l = 0
  · have hr : flushR next l = relF 0 next l [] := by unfold flushR; rw [if_pos hE]
    rw [hE, hr]
    exact bufFlush_ok next v l w hv ((pchk_right next l).1 hE)
  · have hr : flushR next l = (0, [], []) := by unfold flushR; rw [if_neg hE]
    rw [hr]
    refine (bufFlush_no next v l w hv hlen hE).mono ?_
    rintro e w' ⟨rfl, hb⟩
    exact ⟨_, _, rfl, Fresh.nil _ _, Fresh.nil _ _, hb⟩

abbrev bx (n : Int) : Sk := lsk n 1 true true true
theorem bx0 : (bx 70000).chk = 0 := by decide
theorem bx1 : (bx 70001).chk = 0 := by decide
theorem bx2 : (bx 70002).chk = 0 := by decide
theorem right0 : Right 0 [] := ⟨.inl ⟨rfl, rfl⟩, by decide, by simp, rfl⟩
theorem right1 : Right 70001 [] := ⟨.inr (by decide), by decide, by simp, rfl⟩
theorem right2 : Right 70001 [bx 70002] := ⟨.inr (by decide), by decide, by simp [bx2], rfl⟩
theorem put0 : putF 0 [] (bx 70000) = (70001, [], [bx 70000]) := by rfl
theorem put1 : putF 70001 [] (bx 70002) = (70001, [bx 70002], []) := by rfl
theorem put2 : putF 70001 [bx 70002] (bx 70001) = (70003, [], [bx 70001, bx 70002]) := by rfl
theorem flush2 : relF 0 70001 [bx 70002] [] = (70003, [], [bx 70002]) := by rfl

end Go.Proofs.YtnpaejknoipicafGreat

namespace Go.Proofs.YtnpaejknoipicafGreat
open Go.RowKit

/-- an operation of such a region -/
inductive Cm where
  | quiet (v : Value) (lim : Nat)
  | step (s : Nat)
  | fin (t : Nat) (f : Value → Value)
  | box
def cmAt (ks : List Cm) (i : Nat) : Cm := (ks[i]?).getD (.quiet undef 0)
def Cm.out (r : Nat → Value) (b : Nat → Option Nat) (i : Nat) : Cm → Value
  | .quiet v _ => v
  | .step s => r s
  | .fin t f => f (r t)
  | .box => match b i with
    | some g => .pointer (some ⟨g, 0, none⟩)
    | none => undef
def Cm.isBox : Cm → Bool
  | .box => true
  | _ => false
def putM (r : Nat → Value) (b : Nat → Option Nat) : Nat → List Cm → List Oper → Act → Act
  | k, d :: ks, o :: l, a => putM r b (k + 1) ks l (a.put o.dst (d.out r b k))
  | _, _, _, a => a
def updO (b : Nat → Option Nat) (i : Nat) (g : Nat) : Nat → Option Nat := fun j => if j = i then some g else b j
/-- the steps' places; what waits for what -/
def boxesOk (ks : List Cm) (l : List Oper) (st : List Nat) (n : Nat) : Bool :=
  decide (ks.length = l.length) && (l.all fun o => match o.dst with | some k => decide (k < n) | none => true) &&
  ((List.range st.length).all fun s => match st[s]? with
    | some i => decide (i < l.length) && (match cmAt ks i with | .step t => t == s | _ => false) && (s == 0 || (match st[s - 1]? with | some j => waits l i j | none => false))
    | none => false) &&
  ((List.range l.length).all fun i => match cmAt ks i with
    | .quiet _ lim => decide (st.length ≤ lim) || (match st[lim]? with | some j => waits l j i | none => false)
    | .step t => st[t]? == some i
    | .fin t _ => (List.range l.length).any fun j => waits l i j && (match cmAt ks j with | .step t' => t' == t | .fin t' _ => t' == t | _ => false)
    | .box => true)

section
variable {P : Program} {Q : Exit → Act → World → Prop}

structure RBx (ks : List Cm) (l : List Oper) (n m : Nat) (I : Nat → (Nat → Value) → (Nat → Option Nat) → World → Prop) (ls : Nat → Bool) (vs : Nat → Value) (s : Nat) (r : Nat → Value) (b : Nat → Option Nat) (w' : World) : Prop where
  lt : ∀ i, ls i = true → i < n
  steps : ∀ i t, i < n → cmAt ks i = .step t → (ls i = true ↔ t < s)
  fins : ∀ i t f, ls i = true → cmAt ks i = .fin t f → t < s
  box : ∀ i, i < n → cmAt ks i = .box → (ls i = true ↔ (b i).isSome = true)
  vals : ∀ i, ls i = true → vs i = (cmAt ks i).out r b i
  inv : I s r b w'
  le : s ≤ m
  closed : ∀ i j, ls j = true → waits l j i = true → ls i = true

theorem putM_all (L : Array Bool) (vs : Nat → Value) (r : Nat → Value) (b : Nat → Option Nat) : ∀ (l : List Oper) (k : Nat) (ks : List Cm) (a : Act), ks.length = l.length → (∀ i, i < l.length → L.getD (k + i) false = true) → (∀ i, i < l.length → vs (k + i) = (cmAt ks i).out r b (k + i)) → putL L vs k l a = putM r b k ks l a
  | [], _, [], _, _, _, _ => rfl
  | o :: l, k, d :: ks, a, hl, hL, hv => by
    simp only [putL, putM]
    rw [if_pos (by simpa using hL 0 (by simp)), show vs k = d.out r b k by simpa [cmAt] using hv 0 (by simp)]
    refine putM_all L vs r b l (k + 1) ks _ (by simpa using hl) (fun i hi => ?_) (fun i hi => ?_)
    · have := hL (i + 1) (by simpa using hi)
      rw [show k + (i + 1) = k + 1 + i by omega] at this; exact this
    · have := hv (i + 1) (by simpa using hi)
      rw [show k + (i + 1) = k + 1 + i by omega] at this
      simpa [cmAt] using this

theorem region_boxes {id : Nat} {a : Act} {w : World} {l : List Oper} (hm : P.follows .mixedOrders = true) (hB : regOk l = true) (ks : List Cm) (st : List Nat) (hK : boxesOk ks l st a.tmps.size = true)
    (I : Nat → (Nat → Value) → (Nat → Option Nat) → World → Prop) (h0 : I 0 (fun _ => undef) (fun _ => none) { w with drawn := w.drawn + 1 })
    (hstep : ∀ i o, l[i]? = some o → ∀ (a' : Act) (w' : World) (s : Nat) (r : Nat → Value) (b : Nat → Option Nat), I s r b w' → (∀ s, (l.all fun o => o.dst != some s) = true → a'.eval (.tmp s) = a.eval (.tmp s)) → (∀ j oj k, waits l i j = true → l[j]? = some oj → oj.dst = some k → a'.eval (.tmp k) = (cmAt ks j).out r b j) → (∀ j, waits l i j = true → cmAt ks j = .box → (b j).isSome = true) →
      match cmAt ks i with
      | .quiet v lim => s ≤ lim → (execOp a'.eval o).run P w' = .ok (.value v) w'
      | .step t => s = t → o.wp P a' w' (fun a'' w'' => ∃ v, a'' = a'.put o.dst v ∧ I (t + 1) (updR r t v) b w'') Q
      | .fin t f => t < s → (execOp a'.eval o).run P w' = .ok (.value (f (r t))) w'
      | .box => b i = none → ∃ ob, (execOp a'.eval o).run P w' = .ok (.value (.pointer (some ⟨w'.heap.size, 0, none⟩))) (w'.alloc ob) ∧ I s r (updO b i w'.heap.size) (w'.alloc ob))
    (hend : ∀ (r : Nat → Value) (b : Nat → Option Nat) (w' : World), I st.length r b w' → (∀ i, i < l.length → cmAt ks i = .box → ∃ g, b i = some g) → Q .normal (putM r b 0 ks l a) w') :
    (Code.region id l.toArray true).wp P Q a w := by
  simp only [boxesOk, Bool.and_eq_true, decide_eq_true_eq] at hK
  obtain ⟨⟨⟨hlen, hdst⟩, hst⟩, hall⟩ := hK
  have hap : dstsApart l = true := by simp only [regOk, Bool.and_eq_true] at hB; exact hB.1.1
  have hal : ∀ i, i < l.length → _ := fun i hi => List.all_eq_true.1 hall i (List.mem_range.2 hi)
  have hsl : ∀ s, s < st.length → _ := fun s hs => List.all_eq_true.1 hst s (List.mem_range.2 hs)
  have hstp : ∀ s, s < st.length → ∃ i, st[s]? = some i ∧ i < l.length ∧ cmAt ks i = .step s ∧ (0 < s → ∃ j, st[s - 1]? = some j ∧ waits l i j = true) := fun s hs => by
    have h := hsl s hs
    have e : st[s]? = some st[s] := List.getElem?_eq_getElem hs
    rw [e] at h
    simp only [Bool.and_eq_true, decide_eq_true_eq, Bool.or_eq_true, beq_iff_eq] at h
    refine ⟨st[s], e, h.1.1, ?_, fun h0 => ?_⟩
    · have h2 := h.1.2
      cases hk : cmAt ks st[s] with
      | quiet v lim => rw [hk] at h2; cases h2
      | fin t f => rw [hk] at h2; cases h2
      | box => rw [hk] at h2; cases h2
      | step t => rw [hk] at h2; simp at h2; rw [h2]
    · have h3 := h.2
      rcases h3 with h3 | h3
      · omega
      · have e2 : st[s - 1]? = some st[s - 1] := List.getElem?_eq_getElem (by omega)
        rw [e2] at h3
        exact ⟨_, e2, h3⟩
  have hst2 : ∀ i t, i < l.length → cmAt ks i = .step t → st[t]? = some i := fun i t hi hk => by
    have h := hal i hi
    rw [hk] at h
    simpa using h
  refine wp_region_inv hm hB (fun L vs w' => ∃ s r b, RBx ks l l.length st.length I (fun j => L.getD j false) vs s r b w') ?_ ?_ ?_
  · have hno : ∀ j, ¬ (Array.replicate l.length false).getD j false = true := fun j => by
      simp [Array.getD_eq_getD_getElem?, Array.getElem?_replicate]; split <;> simp
    exact ⟨0, fun _ => undef, fun _ => none, fun i h => absurd h (hno i), fun i t _ _ => ⟨fun h => absurd h (hno i), fun h => absurd h (Nat.not_lt_zero _)⟩, fun i _ _ h => absurd h (hno i), fun i _ _ => ⟨fun h => absurd h (hno i), fun h => by cases h⟩, fun i h => absurd h (hno i), h0, Nat.zero_le _, fun _ j h => absurd h (hno j)⟩
  · rintro L vs w' ⟨s, r, b, F⟩ i o ho hL hr
    have hi : i < l.length := (List.getElem?_eq_some_iff.1 ho).1
    have ni : L.getD i false = false := by simpa using listed_no hL
    have hset := setfun hL
    have hwt : ∀ j, waits l i j = true → L.getD j false = true := fun j hw => waits_spec hw ho hr
    have hfree : ∀ s, (l.all fun o => o.dst != some s) = true → (putL L vs 0 l a).eval (.tmp s) = a.eval (.tmp s) := fun s hs => putL_other l 0 a (fun p hp t ht e => by
      injection e with e
      subst e
      have := List.all_eq_true.1 hs p hp
      rw [ht] at this
      simp at this)
    have hvals : ∀ j oj k, waits l i j = true → l[j]? = some oj → oj.dst = some k → (putL L vs 0 l a).eval (.tmp k) = (cmAt ks j).out r b j := fun j oj k hw hoj hk => by
      have h1 := hwt j hw
      have hk2 := List.all_eq_true.1 hdst oj (List.mem_of_getElem? hoj)
      rw [hk] at hk2
      rw [putL_at h1 l 0 a oj hap (Nat.zero_le _) (by simpa using hoj) hk (by simpa using hk2)]
      exact F.vals j h1
    have hs := hstep i o ho (putL L vs 0 l a) w' s r b F.inv hfree hvals (fun j hw hj => (F.box j (F.lt j (hwt j hw)) hj).1 (hwt j hw))
    rw [hset]
    obtain ⟨ls, hls⟩ : ∃ ls : Nat → Bool, ls = fun j => L.getD j false := ⟨_, rfl⟩
    have hlsj : ∀ j, L.getD j false = ls j := fun j => by rw [hls]
    simp only [hlsj] at F ni hwt ⊢
    have hlt' : ∀ j, (decide (j = i) || ls j) = true → j < l.length := fun j hj => by
      simp only [Bool.or_eq_true, decide_eq_true_eq] at hj
      rcases hj with rfl | hj
      · exact hi
      · exact F.lt j hj
    have hcl : ∀ p j, (decide (j = i) || ls j) = true → waits l j p = true → (decide (p = i) || ls p) = true := fun p j hj hw => by
      simp only [Bool.or_eq_true, decide_eq_true_eq] at hj ⊢
      rcases hj with rfl | hj
      · exact .inr (hwt p hw)
      · exact .inr (F.closed p j hj hw)
    have hbxs : ∀ k, cmAt ks i = k → k.isBox = false → ∀ j, j < l.length → cmAt ks j = .box → ((decide (j = i) || ls j) = true ↔ (b j).isSome = true) := fun k h1 h2 j hj hjk => by
      have e : j ≠ i := fun e => by subst e; rw [h1] at hjk; subst hjk; cases h2
      simpa [e] using F.box j hj hjk
    have plain : ∀ (k : Cm) (v : Value), cmAt ks i = k → k.isBox = false → (∀ t, k ≠ .step t) → (∀ t f, k = .fin t f → t < s) → k.out r b i = v → ∃ s r b, RBx ks l l.length st.length I (fun j => decide (j = i) || ls j) (upd vs i v) s r b w' := fun k v hk h1 h2 h3 h4 => by
      refine ⟨s, r, b, hlt', ?_, ?_, hbxs k hk h1, ?_, F.inv, F.le, hcl⟩
      · intro j t hj hjk
        have e : j ≠ i := fun e => by subst e; rw [hk] at hjk; exact h2 t hjk
        simpa [e] using F.steps j t hj hjk
      · intro j t f hj hjk
        by_cases e : j = i
        · subst e; rw [hk] at hjk; exact h3 t f hjk
        · exact F.fins j t f (by simpa [e] using hj) hjk
      · intro j hj
        by_cases e : j = i
        · subst e; rw [upd_at, hk, h4]
        · rw [upd_ne e]; exact F.vals j (by simpa [e] using hj)
    cases hk : cmAt ks i with
    | fin t f =>
      rw [hk] at hs
      have hts : t < s := by
        have h := hal i hi
        rw [hk] at h
        obtain ⟨j, hjm, hj⟩ := List.any_eq_true.1 h
        simp only [Bool.and_eq_true] at hj
        have hjl := hwt j hj.1
        have h2 := hj.2
        cases hkj : cmAt ks j with
        | quiet v lim => rw [hkj] at h2; cases h2
        | box => rw [hkj] at h2; cases h2
        | step t' => rw [hkj] at h2; simp at h2; subst h2; exact (F.steps j t' (F.lt j hjl) hkj).1 hjl
        | fin t' f' => rw [hkj] at h2; simp at h2; subst h2; exact F.fins j t' f' hjl hkj
      exact oper_wp_ok (hs hts) ⟨_, rfl, plain (.fin t f) _ hk rfl (fun _ e => by cases e) (fun t' f' e => by injection e with e1; omega) rfl⟩
    | box =>
      rw [hk] at hs
      have hb0 : b i = none := by
        cases hbi : b i with
        | none => rfl
        | some g => have := (F.box i hi hk).2 (by rw [hbi]; rfl); rw [this] at ni; cases ni
      obtain ⟨ob, h1, h2⟩ := hs hb0
      refine oper_wp_ok h1 ⟨_, rfl, s, r, updO b i w'.heap.size, hlt', ?_, ?_, ?_, ?_, h2, F.le, hcl⟩
      · intro j t hj hjk
        have e : j ≠ i := fun e => by subst e; rw [hk] at hjk; cases hjk
        simpa [e] using F.steps j t hj hjk
      · intro j t f hj hjk
        have e : j ≠ i := fun e => by subst e; rw [hk] at hjk; cases hjk
        exact F.fins j t f (by simpa [e] using hj) hjk
      · intro j hj hjk
        by_cases e : j = i
        · subst e; simp [updO]
        · simpa [e, updO] using F.box j hj hjk
      · intro j hj
        by_cases e : j = i
        · subst e; rw [upd_at, hk]; simp [Cm.out, updO]
        · have hlj : ls j = true := by simpa [e] using hj
          rw [upd_ne e, F.vals j hlj]
          cases hkj : cmAt ks j with
          | quiet v' lim' => rfl
          | step t' => rfl
          | fin t' f' => rfl
          | box => simp [Cm.out, updO, e]
    | quiet v lim =>
      rw [hk] at hs
      have hle : s ≤ lim := by
        have h := hal i hi
        rw [hk] at h
        simp only [Bool.or_eq_true, decide_eq_true_eq] at h
        rcases h with h | h
        · exact Nat.le_trans F.le h
        · by_cases hlt : s ≤ lim
          · exact hlt
          · exfalso
            have hll : lim < st.length := by have := F.le; omega
            obtain ⟨j, e1, e2, e3, _⟩ := hstp lim hll
            rw [e1] at h
            have hlj := (F.steps j lim e2 e3).2 (by omega)
            rw [F.closed i j hlj h] at ni
            cases ni
      exact oper_wp_ok (hs hle) ⟨v, rfl, plain (.quiet v lim) v hk rfl (fun _ e => by cases e) (fun _ _ e => by cases e) rfl⟩
    | step t =>
      rw [hk] at hs
      have hti := hst2 i t hi hk
      have htl : t < st.length := (List.getElem?_eq_some_iff.1 hti).1
      have hst' : s = t := by
        have h1 : ¬ t < s := fun h => by rw [(F.steps i t hi hk).2 h] at ni; cases ni
        by_cases h0 : t = 0
        · omega
        · obtain ⟨i', e1, e2, e3, e4⟩ := hstp t htl
          rw [hti] at e1
          injection e1 with e1
          subst e1
          obtain ⟨j, q1, q2⟩ := e4 (by omega)
          obtain ⟨j', r1, r2, r3, _⟩ := hstp (t - 1) (by omega)
          rw [q1] at r1
          injection r1 with r1
          subst r1
          have := (F.steps j (t - 1) r2 r3).1 (hwt j q2)
          omega
      subst hst'
      refine Oper.wp_mono ?_ (hs rfl)
      rintro a'' w'' ⟨v, h1, h2⟩
      refine ⟨v, h1, s + 1, updR r s v, b, hlt', ?_, ?_, hbxs _ hk rfl, ?_, h2, htl, hcl⟩
      · intro j t' hj hjk
        by_cases e : j = i
        · subst e
          rw [hk] at hjk
          injection hjk with hjk
          subst hjk
          simp
        · have h3 := F.steps j t' hj hjk
          have hne : t' ≠ s := fun e' => by
            subst e'
            have := hst2 j t' hj hjk
            rw [hti] at this
            injection this with this
            exact e this.symm
          simp only [e, decide_false, Bool.false_or]
          rw [h3]; omega
      · intro j t' f hj hjk
        have e : j ≠ i := fun e => by subst e; rw [hk] at hjk; cases hjk
        have := F.fins j t' f (by simpa [e] using hj) hjk
        omega
      · intro j hj
        by_cases e : j = i
        · subst e; rw [upd_at, hk]; exact (updR_at r s v).symm
        · have hlj : ls j = true := by simpa [e] using hj
          rw [upd_ne e, F.vals j hlj]
          cases hkj : cmAt ks j with
          | quiet v' lim' => rfl
          | box => rfl
          | fin t' f' =>
            have := F.fins j t' f' hlj hkj
            exact congrArg f' (updR_ne (by omega)).symm
          | step t' =>
            have := (F.steps j t' (F.lt j hlj) hkj).1 hlj
            exact (updR_ne (by omega)).symm
  · rintro L vs w' ⟨s, r, b, F⟩ hlst
    have hs : s = st.length := by
      by_cases h : s < st.length
      · obtain ⟨i, e1, e2, e3, _⟩ := hstp s h
        have := (F.steps i s e2 e3).1 (hlst i e2)
        omega
      · have := F.le; omega
    subst hs
    rw [putM_all L vs r b l 0 ks a hlen (fun i hi => by rw [Nat.zero_add]; exact hlst i hi) (fun i hi => by rw [Nat.zero_add]; exact F.vals i (hlst i hi))]
    exact hend r b w' F.inv (fun i hi hk => Option.isSome_iff_exists.1 ((F.box i hi hk).1 (hlst i hi)))
end
end Go.Proofs.YtnpaejknoipicafGreat

namespace Go.Proofs.YtnpaejknoipicafGreat
open Go.RowKit Go.Sort

set_option maxHeartbeats 8000000 in
set_option maxRecDepth 100000 in
theorem numberOf_any (S : Nat → Prop) (M : Nat) (t : Tr) (c : Int) (p : Pk) (w : World) (hT : TkB S M w t c) (hp : p.chk = 0) :
    Calls Tryz.prog 111 #[.pointer (some ⟨M, 0, none⟩), p.val] w fun e w' => e = .returned (.tuple #[.int .i64 (numN t.last p), .int .i64 (numE t.last p)]) ∧ Below w.heap.size w w' := by
  obtain ⟨hv, bv, gv, ov, hM, hr⟩ := hT
  obtain ⟨p1, p2, _⟩ := Pk.chk_ok hp
  have y0 : w.cell? ⟨M, 0, none⟩ = some (.int .i64 t.last) := hM.cell rfl
  have hMw := hM.lt
  obtain ⟨last, hlast⟩ : ∃ x, x = t.last := ⟨_, rfl⟩
  rw [← hlast] at y0 ⊢
  clear hlast hM hr hp
  obtain ⟨W, hW⟩ : ∃ W, W = w.alloc (.cells #[.int .i64 p.seq, .int .i64 p.time, .bool p.f, .bool p.e, .bool p.k, .string p.t] 89) := ⟨_, rfl⟩
  have HB : Hid (Below w.heap.size w W) := by rw [hW]; exact (Below.refl _ _).alloc (Nat.le_refl _) _
  simp only [Pk.val]
  go_enter Tryz.func111, Tryz.ntmps111
  by_cases h0 : last = 0
  · have e1 : Hid (numN last p = p.seq + 65536 ∧ numE last p = 0) := by unfold numN numE; rw [if_pos h0, if_pos h0]; exact ⟨rfl, rfl⟩
    subst h0
    go_wp2
    rw [← hW]
    go_ret2
    rw [e1.out.1, e1.out.2]
    exact ⟨rfl, HB.out⟩
  · have e1 : Hid (numN last p = Cn.uwN last p.seq ∧ numE last p = Cn.uwE last p.seq) := by unfold numN numE; rw [if_neg h0, if_neg h0]; exact ⟨rfl, rfl⟩
    have h0b : (last == 0) = false := by simpa using h0
    go_wp2_with fail
    go_quiet ((go_at_call 157; refine Calls.quiet_of_same ((unwrap_any _ _ _).mono fun e w9 h => ⟨h.1, h.2.symm⟩)))
    rw [← hW]
    go_wp2
    go_ret2
    rw [e1.out.1, e1.out.2]
    exact ⟨rfl, below_drewN HB.out _⟩

theorem Fresh.slsIn {base : Nat} {S : Nat → Prop} {w : World} {v : Value} {l : List Sk} (h : Fresh base w v l) (hl : l.length ≤ 9223372036854775807) (hS : ∀ g, base ≤ g → S g) : SlsIn S w v l := ⟨h.1, hl, fun g hg _ => ⟨hS g (h.2 g hg).1, (h.2 g hg).2⟩⟩
theorem rel_len (most : Nat) {h : List Sk} {next : Int} (o : List Sk) (hu : upB (next - 1) h = true) : (relF most next h o).2.1.length ≤ h.length ∧ (relF most next h o).2.2.length ≤ o.length + h.length := by
  obtain ⟨p, i1, i2, _⟩ := rel_inv most h next o hu
  have : h.length = p.length + (relF most next h o).2.1.length := by rw [← List.length_append, ← i1]
  rw [i2, List.length_append]; omega

theorem rel_olen (most : Nat) : ∀ (h : List Sk) (next : Int) (o : List Sk), (relF most next h o).2.2.length ≤ h.length + o.length
  | [], next, o => by simp [relF]
  | x :: r, next, o => by
    simp only [relF]
    split
    · have := rel_olen most r (next + 1) (o ++ [x]); simp at this ⊢; omega
    · split
      · simp
      · have := rel_olen most r (x.n + 1) (o ++ [x]); simp at this ⊢; omega
theorem put_olen {next : Int} {l : List Sk} {x : Sk} (hR : Right next l) : (putF next l x).2.2.length ≤ 100 := by
  have h4 := hR.2.1
  have key : ∀ (n' : Int), (relF 4 n' (insF l x) []).2.2.length ≤ (insF l x).length + 0 := fun n' => rel_olen 4 (insF l x) n' []
  have hi : (insF l x).length = l.length + 1 := by
    unfold insF putAt
    rw [List.length_append, List.length_cons, List.length_take, List.length_drop]; omega
  unfold putF
  repeat' split
  all_goals first | (simp; done) | (refine Nat.le_trans (key _) ?_; omega)

set_option maxHeartbeats 8000000 in
set_option maxRecDepth 100000 in
theorem tkDrain_any (S : Nat → Prop) (M : Nat) (t : Tr) (w : World) (hT : TkB S M w t (0 : Nat)) (hR : Right t.next t.h) (hok : TkOk t) (hS : ∀ g, w.heap.size ≤ g → S g) :
    Calls Tryz.prog 69 #[.pointer (some ⟨M, 0, none⟩)] w fun e w' => e = .returned (.int .i64 (drainR t).2.2) ∧ ((drainR t).2.2 = 0 → TkB S M w' (drainR t).1 ((drainR t).2.1 : Nat)) ∧ Kept [M] w w' := by
  have hMw := hT.lt
  obtain ⟨hv, bv, gv, ov, hM, hr⟩ := hT
  obtain ⟨ha, hc, ba, bc, ga, gc, oa, oc, eh, eb, eg, eo⟩ := hr.slices
  have hup : upB (t.next - 1) t.h = true := upB_mono hR.2.2.2 (by omega)
  obtain ⟨l1, l2⟩ := rel_len 0 [] hup
  have h4 := hR.2.1
  obtain ⟨_, _, i3, _, _⟩ := flush_inv hR
  obtain ⟨N1, hN1⟩ : ∃ x, x = (relF 0 t.next t.h []).1 := ⟨_, rfl⟩
  obtain ⟨h1, hh1⟩ : ∃ x, x = (relF 0 t.next t.h []).2.1 := ⟨_, rfl⟩
  obtain ⟨o1, ho1⟩ : ∃ x, x = (relF 0 t.next t.h []).2.2 := ⟨_, rfl⟩
  obtain ⟨R, hRR⟩ : ∃ x, x = drainR t := ⟨_, rfl⟩
  have hR2 : R = tkN o1 (t.buf t.last N1 h1, 0) := by rw [hRR, ho1, hN1, hh1]; rfl
  rw [← ho1] at i3 l2
  rw [← hh1] at l1
  obtain ⟨next, hnext⟩ : ∃ x, x = t.next := ⟨_, rfl⟩
  obtain ⟨hn, hhn⟩ : ∃ x, x = t.h.length := ⟨_, rfl⟩
  rw [← hhn] at eh
  have HFL : Hid (Calls Tryz.prog 114 #[.agg #[.int .i64 next, hv]] w fun e w' => ∃ pa pn pc qa qn qc, e = .returned (.tuple #[.agg #[.int .i64 N1, .slice pa pn pc], .slice qa qn qc, .int .i64 0]) ∧ Hid (SlsIn (fun g => S g ∧ g ≠ M) w' (.slice pa pn pc) h1) ∧ Hid (SlsIn (fun g => g ≠ M) w' (.slice qa qn qc) o1) ∧ Below w.heap.size w w') := by
    rw [hnext]
    refine (bufFlush_any t.next hv t.h w hr.1.1 (by omega)).mono ?_
    rintro e w' ⟨hv', ov', rfl, f1, f2, f3⟩
    have hp0 : pchk t.next t.h = 0 := (bchk_right _ _).2 hR
    have e1 : flushR t.next t.h = relF 0 t.next t.h [] := by unfold flushR; rw [if_pos hp0]
    rw [e1] at f1 f2 ⊢
    rw [← hh1] at f1
    rw [← ho1] at f2
    obtain ⟨pa, pc, e2⟩ := f1.1.len
    obtain ⟨qa, qc, e3⟩ := f2.1.len
    subst e2 e3
    rw [hp0, ← hN1]
    simp only [List.length_nil] at l2
    exact ⟨pa, _, pc, qa, _, qc, rfl, f1.slsIn (by omega) (fun g hg => ⟨hS g hg, by omega⟩), f2.slsIn (by omega) (fun g hg => by omega), f3⟩
  have HPASS : Hid (∀ (W : World) (pv qv : Value), Below w.heap.size w W → SlsIn (fun g => S g ∧ g ≠ M) W pv h1 → SlsIn (fun g => g ≠ M) W qv o1 → Calls Tryz.prog 112 #[.pointer (some ⟨M, 0, none⟩), .agg #[.int .i64 N1, pv], qv, .int .i64 0] W fun e w' => e = .returned (.int .i64 R.2.2) ∧ (R.2.2 = 0 → TkB S M w' R.1 (R.2.1 : Nat)) ∧ Kept [M] w w') := fun W pv qv hW q1 q2 => by
    have hsz := hW.size
    simp only [List.length_nil] at l2
    refine (tkPass_any S M t 0 N1 pv qv h1 o1 W (TkB.below ⟨hv, bv, gv, ov, hM, hr⟩ hW) hok q1 q2 (fun x hx => hR.2.2.1 x (i3 x hx).1) (by omega) (fun g hg => hS g (by omega)) (by omega)).mono ?_
    rintro e w' ⟨rfl, a1, a2⟩
    rw [← hR2] at a1 ⊢
    exact ⟨rfl, a1, ((Kept.refl [M] w).below hW).trans a2⟩
  obtain ⟨y0, y1, y2, y3, y4, y5, y6, y7⟩ := hM.eight
  rw [← hnext] at y1
  rw [← hRR]
  clear hup l1 l2 h4 i3 hN1 hh1 ho1 hRR hR2 hnext hhn hM hr hR hok hS y0 y3 y4 y5 y6 y7
  subst eh
  go_enter Tryz.func69, Tryz.ntmps69
  go_wp2_with fail
  refine HFL.out.mono ?_
  rintro e w1 ⟨pa, pn, pc, qa, qn, qc, rfl, q1, q2, b1⟩
  have HP := HPASS.out w1 _ _ b1 q1.out q2.out
  have HP' : Hid (Calls Tryz.prog 112 #[.pointer (some ⟨M, 0, none⟩), .agg #[.int .i64 N1, .slice pa pn pc], .slice qa qn qc, .int .i64 0] w1 fun e w' => e = .returned (.int .i64 R.2.2) ∧ Hid (R.2.2 = 0 → TkB S M w' R.1 (R.2.1 : Nat)) ∧ Hid (Kept [M] w w')) := HP
  clear HP HPASS HFL q1 q2 b1
  go_wp2_with fail
  refine HP'.out.mono ?_
  rintro e w2 ⟨rfl, a1, a2⟩
  go_wp2
  go_ret
  exact ⟨rfl, a1.out, a2.out⟩

theorem Blk.sixc {w : World} {b : Nat} {x0 x1 x2 x3 x4 x5 : Value} {t : TypeId} (h : Blk w b #[x0, x1, x2, x3, x4, x5] t) :
    w.cell? ⟨b, 0, none⟩ = some x0 ∧ w.cell? ⟨b, 1, none⟩ = some x1 ∧ w.cell? ⟨b, 2, none⟩ = some x2 ∧ w.cell? ⟨b, 3, none⟩ = some x3 ∧ w.cell? ⟨b, 4, none⟩ = some x4 ∧ w.cell? ⟨b, 5, none⟩ = some x5 :=
  ⟨h.cell rfl, h.cell rfl, h.cell rfl, h.cell rfl, h.cell rfl, h.cell rfl⟩

set_option maxHeartbeats 16000000 in
set_option maxRecDepth 100000 in
theorem tkFeed_any (S : Nat → Prop) (M : Nat) (t : Tr) (s : List UInt8) (w : World) (hT : TkB S M w t (0 : Nat)) (hcl : t.last = 0 ∨ Cn.isNB t.last = true) (hR : Right t.next t.h) (hok : TkOk t) (hS : ∀ g, w.heap.size ≤ g → S g) :
    Calls Tryz.prog 67 #[.pointer (some ⟨M, 0, none⟩), .string (ba s)] w fun e w' => e = .returned (.int .i64 (feedR t s).2.2) ∧ ((feedR t s).2.2 = 0 → TkB S M w' (feedR t s).1 ((feedR t s).2.1 : Nat)) ∧ Kept [M] w w' := by
  have hMw := hT.lt
  have HT : Hid (TkB S M w t (0 : Nat)) := hT
  obtain ⟨hv, bv, gv, ov, hM, hr⟩ := hT
  obtain ⟨ha, hc, ba', bc, ga, gc, oa, oc, eh, eb, eg, eo⟩ := hr.slices
  obtain ⟨p, hp⟩ : ∃ x, x = (Pk.dec s).1 := ⟨_, rfl⟩
  obtain ⟨D, hD⟩ : ∃ x, x = (Pk.dec s).2 := ⟨_, rfl⟩
  obtain ⟨n, hn⟩ : ∃ x, x = numN t.last p := ⟨_, rfl⟩
  obtain ⟨NE, hNE⟩ : ∃ x, x = numE t.last p := ⟨_, rfl⟩
  obtain ⟨last, hlast⟩ : ∃ x, x = t.last := ⟨_, rfl⟩
  obtain ⟨next, hnext⟩ : ∃ x, x = t.next := ⟨_, rfl⟩
  obtain ⟨first, hfirst⟩ : ∃ x, x = t.first := ⟨_, rfl⟩
  obtain ⟨R, hRR⟩ : ∃ x, x = feedP t n p := ⟨_, rfl⟩
  obtain ⟨F, hF⟩ : ∃ x, x = feedR t s := ⟨_, rfl⟩
  have HF1 : Hid (¬ D = 0 → F = (Tr.zero, 0, D)) := fun h => by rw [hF]; unfold feedR; rw [← hD, if_neg h]
  have HF2 : Hid (D = 0 → ¬ NE = 0 → F = (Tr.zero, 0, NE)) := fun h h2 => by rw [hF]; unfold feedR; rw [← hD, if_pos h, ← hp, ← hNE, if_neg h2]
  have HF3 : Hid (D = 0 → NE = 0 → F = R) := fun h h2 => by rw [hF]; unfold feedR; rw [← hD, if_pos h, ← hp, ← hNE, if_pos h2, ← hn, ← hRR]
  have HPC : Hid (D = 0 → p.chk = 0) := fun h => by
    rcases Pk.dec_or s with ⟨_, h2⟩ | ⟨_, h2, _⟩
    · rw [← hD, h] at h2; cases h2
    · rw [hp]; exact h2
  have HDEC : Hid (Calls Tryz.prog 110 #[.string (ba s)] w fun e w' => e = .returned (.tuple #[.agg #[.int .i64 p.seq, .int .i64 p.time, .bool p.f, .bool p.e, .bool p.k, .string p.t], .int .i64 D]) ∧ Below w.heap.size w w') := by
    rw [hp, hD]; exact decode_any s w
  have HNO : Hid (D = 0 → ∀ W : World, Below w.heap.size w W → Calls Tryz.prog 111 #[.pointer (some ⟨M, 0, none⟩), .agg #[.int .i64 p.seq, .int .i64 p.time, .bool p.f, .bool p.e, .bool p.k, .string p.t]] W fun e w' => e = .returned (.tuple #[.int .i64 n, .int .i64 NE]) ∧ Below W.heap.size W w') := fun h W hW => by
    rw [hn, hNE]; exact numberOf_any S M t _ p W (HT.out.below hW) (HPC.out h)
  -- what comes of Put and pass, the number known
  have HGO : Hid (D = 0 → NE = 0 → ∃ N1 h1 o1, R = tkN o1 (t.buf (max t.last n) N1 h1, 0) ∧ (∀ W : World, w.heap.size ≤ W.heap.size → M < w.heap.size → SlsIn (fun g => S g ∧ g ≠ M) W hv t.h → Calls Tryz.prog 113 #[.agg #[.int .i64 next, hv], .agg #[.int .i64 n, .int .i64 p.seq, .int .i64 p.time, .bool p.f, .bool p.e, .bool p.k, .string p.t]] W fun e w' => ∃ pa pn pc qa qn qc, e = .returned (.tuple #[.agg #[.int .i64 N1, .slice pa pn pc], .slice qa qn qc, .int .i64 0]) ∧ Hid (SlsIn (fun g => S g ∧ g ≠ M) w' (.slice pa pn pc) h1) ∧ Hid (SlsIn (fun g => g ≠ M) w' (.slice qa qn qc) o1) ∧ Below W.heap.size W w') ∧ (∀ (W : World) (pv qv : Value), w.heap.size ≤ W.heap.size → TkB S M W (t.buf (max t.last n) t.next t.h) (0 : Nat) → SlsIn (fun g => S g ∧ g ≠ M) W pv h1 → SlsIn (fun g => g ≠ M) W qv o1 → Calls Tryz.prog 112 #[.pointer (some ⟨M, 0, none⟩), .agg #[.int .i64 N1, pv], qv, .int .i64 0] W fun e w' => e = .returned (.int .i64 R.2.2) ∧ Hid (R.2.2 = 0 → TkB S M w' R.1 (R.2.1 : Nat)) ∧ Hid (Kept [M] W w'))) := fun h0 h2 => by
    have hpc := HPC.out h0
    have hx : (Sk.mk n p).chk = 0 := by rw [hn]; exact num_slot hpc hcl (by rw [← hNE]; exact h2)
    obtain ⟨i1, i2, i3, i4, i5, i6, i7⟩ := put_inv hR hx
    obtain ⟨N1, hN1⟩ : ∃ x, x = (putF t.next t.h ⟨n, p⟩).1 := ⟨_, rfl⟩
    obtain ⟨h1, hh1⟩ : ∃ x, x = (putF t.next t.h ⟨n, p⟩).2.1 := ⟨_, rfl⟩
    obtain ⟨o1, ho1⟩ : ∃ x, x = (putF t.next t.h ⟨n, p⟩).2.2 := ⟨_, rfl⟩
    have hR2 : R = tkN o1 (t.buf (max t.last n) N1 h1, 0) := by rw [hRR, ho1, hN1, hh1]; rfl
    have hlo : o1.length ≤ 100 := by rw [ho1]; exact put_olen hR
    have hlh : h1.length ≤ 4 := by rw [hh1]; exact i1.2.1
    have hoc : ∀ y ∈ o1, y.chk = 0 := fun y hy => by
      rw [ho1] at hy
      rcases (i3 y hy).1 with e | e
      · rw [e]; exact hx
      · exact hR.2.2.1 y e
    refine ⟨N1, h1, o1, hR2, fun W hsz hMl hsl => ?_, fun W pv qv hsz htk q1 q2 => ?_⟩
    · rw [hnext]
      refine (bufPut_any t.next hv t.h ⟨n, p⟩ W hsl.1 hsl.2.1).mono ?_
      rintro e w' ⟨hv', ov', rfl, f1, f2, f3⟩
      have hp0 : pchk t.next t.h = 0 := (bchk_right _ _).2 hR
      have e0 : putE t.next t.h ⟨n, p⟩ = 0 := by unfold putE; rw [if_pos hp0]; exact hx
      have e1 : putR t.next t.h ⟨n, p⟩ = putF t.next t.h ⟨n, p⟩ := by unfold putR; rw [if_pos e0]
      rw [e1] at f1 f2 ⊢
      rw [← hh1] at f1
      rw [← ho1] at f2
      obtain ⟨pa, pc, e2⟩ := f1.1.len
      obtain ⟨qa, qc, e3⟩ := f2.1.len
      subst e2 e3
      rw [e0, ← hN1]
      exact ⟨pa, _, pc, qa, _, qc, rfl, f1.slsIn (by omega) (fun g hg => ⟨hS g (by omega), by omega⟩), f2.slsIn (by omega) (fun g hg => by omega), f3⟩
    · refine (tkPass_any S M (t.buf (max t.last n) t.next t.h) 0 N1 pv qv h1 o1 W htk hok q1 q2 hoc hlo (fun g hg => hS g (by omega)) (by omega)).mono ?_
      rintro e w' ⟨rfl, a1, a2⟩
      have e9 : (t.buf (max t.last n) t.next t.h).buf (t.buf (max t.last n) t.next t.h).last N1 h1 = t.buf (max t.last n) N1 h1 := rfl
      rw [e9, ← hR2] at a1 ⊢
      exact ⟨rfl, a1, a2⟩
  have HSUS : Hid (∀ g, w.heap.size ≤ g → S g) := hS
  have HR0 : Hid (TrIn (fun g => S g ∧ g ≠ M) w hv bv gv ov t) := hr
  obtain ⟨hn', hhn⟩ : ∃ x, x = t.h.length := ⟨_, rfl⟩
  obtain ⟨bn, hbn⟩ : ∃ x, x = t.o.length := ⟨_, rfl⟩
  obtain ⟨ln, hln⟩ : ∃ x, x = t.L.length := ⟨_, rfl⟩
  obtain ⟨lo, hlo⟩ : ∃ x, x = t.O.length := ⟨_, rfl⟩
  rw [← hhn] at eh
  rw [← hbn] at eb
  rw [← hln] at eg
  rw [← hlo] at eo
  have HTT : Hid (last = t.last ∧ next = t.next ∧ first = t.first) := ⟨hlast, hnext, hfirst⟩
  have HMX : Hid (max t.last n = max last n) := by show _ = _; rw [hlast]
  rw [← hlast, ← hnext, ← hfirst] at hM
  have HM : Hid (Blk w M #[.int .i64 last, .int .i64 next, hv, bv, .int .i64 first, gv, ov, .int .i64 (0 : Nat)] 167) := hM
  rw [← hF]
  clear hhn hbn hln hlo hlast hnext hfirst hM hr hR hok hS hcl hp hD hn hNE hRR hF
  subst eh eb eg eo
  go_enter Tryz.func67, Tryz.ntmps67
  go_wp2_with fail
  refine HDEC.out.mono ?_
  rintro e w1 ⟨rfl, b1⟩
  obtain ⟨W1, hW1⟩ : ∃ X, X = w1.alloc (.cells #[.int .i64 p.seq, .int .i64 p.time, .bool p.f, .bool p.e, .bool p.k, .string p.t] 89) := ⟨_, rfl⟩
  have HB1 : Hid (Below w.heap.size w W1) := by rw [hW1]; exact b1.alloc b1.size _
  have HP1 : Hid (Blk W1 w1.heap.size #[.int .i64 p.seq, .int .i64 p.time, .bool p.f, .bool p.e, .bool p.k, .string p.t] 89) := Blk.newE hW1
  have hs1 : w.heap.size ≤ w1.heap.size := b1.size
  clear HDEC b1
  by_cases hD0 : D = 0
  case neg =>
    have HFX : Hid (F = (Tr.zero, 0, D)) := HF1.out hD0
    go_wp2
    rw [← hW1]
    go_ret
    rw [HFX.out]
    exact ⟨rfl, fun h => absurd h hD0, (Kept.refl [M] w).below HB1.out⟩
  have HNO' : Hid (∀ W : World, Below w.heap.size w W → Calls Tryz.prog 111 #[.pointer (some ⟨M, 0, none⟩), .agg #[.int .i64 p.seq, .int .i64 p.time, .bool p.f, .bool p.e, .bool p.k, .string p.t]] W fun e w' => e = .returned (.tuple #[.int .i64 n, .int .i64 NE]) ∧ Below W.heap.size W w') := HNO.out hD0
  have HG2 := HGO.out hD0
  have HG3 : Hid (NE = 0 → _) := HG2
  have HF2' : Hid (¬ NE = 0 → F = (Tr.zero, 0, NE)) := HF2.out hD0
  have HF3' : Hid (NE = 0 → F = R) := HF3.out hD0
  obtain ⟨j0, j1, j2, j3, j4, j5⟩ := HP1.out.sixc
  clear HG2 HGO HNO HF1 HF2 HF3
  subst hD0
  go_upto_region 4 with fail
  rw [← hW1]
  clear hW1
  go_wp2_with fail
  refine (HNO'.out W1 HB1.out).mono ?_
  rintro e w2 ⟨rfl, b2⟩
  have HB2 : Hid (Below w.heap.size w w2) := HB1.out.trans (b2.mono HB1.out.size)
  have HP2 : Hid (Blk w2 w1.heap.size #[.int .i64 p.seq, .int .i64 p.time, .bool p.f, .bool p.e, .bool p.k, .string p.t] 89) := HP1.out.below b2 HP1.out.lt
  clear b2 HB1 HP1 j0 j1 j2 j3 j4 j5 HNO'
  by_cases hN0 : NE = 0
  case neg =>
    have HFX : Hid (F = (Tr.zero, 0, NE)) := HF2'.out hN0
    go_wp2
    go_ret
    rw [HFX.out]
    exact ⟨rfl, fun h => absurd h hN0, (Kept.refl [M] w).below HB2.out⟩
  obtain ⟨N1, h1, o1, hR2, hput, hpass⟩ := HG3.out hN0
  have HRF : Hid (F = R) := HF3'.out hN0
  have HM2 := HM.out.below HB2.out hMw
  obtain ⟨y0, y1, y2, y3, y4, y5, y6, y7⟩ := HM2.eight
  have fM := HM2.free
  have lM := HM2.lt
  have hB5 : w1.heap.size ≠ M := by omega
  obtain ⟨W, hW⟩ : ∃ X, X = w2.setCell ⟨M, 0, none⟩ (.int .i64 (max last n)) := ⟨_, rfl⟩
  have HKW : Hid (Kept [M] w W) := by rw [hW]; exact ((Kept.refl [M] w).below HB2.out).setCell (p := ⟨M, 0, none⟩) (by simp) _
  have HPW : Hid (Blk W w1.heap.size #[.int .i64 p.seq, .int .i64 p.time, .bool p.f, .bool p.e, .bool p.k, .string p.t] 89) := by rw [hW]; exact HP2.out.other (a := ⟨M, 0, none⟩) hB5 _
  have HMW : Hid (Blk W M #[.int .i64 (max last n), .int .i64 next, .slice ha hn' hc, .slice ba' bn bc, .int .i64 first, .slice ga ln gc, .slice oa lo oc, .int .i64 (0 : Nat)] 167) := by
    have := HM2.set 0 (.int .i64 (max last n))
    rw [hW]; simpa [Hid] using this
  have HRW : Hid (TrIn (fun g => S g ∧ g ≠ M) W (.slice ha hn' hc) (.slice ba' bn bc) (.slice ga ln gc) (.slice oa lo oc) t) := by
    have h2 := HR0.out.below HB2.out
    exact h2.to ⟨by rw [hW]; simp, fun g _ h => by rw [hW, Below.heap_setCell _ _ _ _ (by exact h.2)]⟩ (fun _ _ h => h)
  have HTW : Hid (TkB S M W (t.buf (max t.last n) t.next t.h) (0 : Nat)) := by
    refine ⟨_, _, _, _, ?_, HRW.out⟩
    have := HMW.out
    rw [HTT.out.2.1, HTT.out.2.2, ← HMX.out] at this
    exact this
  have hsW : w.heap.size ≤ W.heap.size := HKW.out.size
  have HPUT : Hid (∀ w', Below W.heap.size W w' → Calls Tryz.prog 113 #[.agg #[.int .i64 next, .slice ha hn' hc], .agg #[.int .i64 n, .int .i64 p.seq, .int .i64 p.time, .bool p.f, .bool p.e, .bool p.k, .string p.t]] w' fun e w'' => ∃ pa pn pc qa qn qc, e = .returned (.tuple #[.agg #[.int .i64 N1, .slice pa pn pc], .slice qa qn qc, .int .i64 0]) ∧ Hid (SlsIn (fun g => S g ∧ g ≠ M) w'' (.slice pa pn pc) h1) ∧ Hid (SlsIn (fun g => g ≠ M) w'' (.slice qa qn qc) o1) ∧ Below w'.heap.size w' w'') := fun w' hb => hput w' (Nat.le_trans hsW hb.size) hMw (HRW.out.1.below hb)
  have HPASS : Hid (∀ (w' : World) (pv qv : Value), Below W.heap.size W w' → SlsIn (fun g => S g ∧ g ≠ M) w' pv h1 → SlsIn (fun g => g ≠ M) w' qv o1 → Calls Tryz.prog 112 #[.pointer (some ⟨M, 0, none⟩), .agg #[.int .i64 N1, pv], qv, .int .i64 0] w' fun e w'' => e = .returned (.int .i64 R.2.2) ∧ Hid (R.2.2 = 0 → TkB S M w'' R.1 (R.2.1 : Nat)) ∧ Hid (Kept [M] W w'')) := fun w' pv qv hb q1 q2 => by
    refine (hpass w' pv qv (Nat.le_trans hsW hb.size) (HTW.out.below hb) q1 q2).mono ?_
    rintro e w'' ⟨rfl, a1, a2⟩
    exact ⟨rfl, a1, ((Kept.refl [M] W).below hb).trans a2.out⟩
  clear hput hpass hR2 HG3 HF2' HF3' HM2 HRW HTW HR0 HP2 HB2 HM HT HTT HMX HSUS HPC
  subst hN0
  obtain ⟨B, hBe⟩ : ∃ x, x = w1.heap.size := ⟨_, rfl⟩
  rw [← hBe] at HPW
  go_upto_region 8 with fail
  have hmx : (if last < n then n else last) = max last n := by split <;> omega
  rw [hmx, ← hW, ← hBe]
  have hBM : B ≠ M := by omega
  clear hmx hW hBe y0 y1 y2 y3 y4 y5 y6 y7 fM lM hB5
  refine region_boxes (by kernel_rfl) (by kernel_rfl) [.quiet (.pointer (some ⟨M, 0, none⟩)) 3, .quiet (.pointer (some ⟨M, 0, none⟩)) 3, .quiet (.pointer (some ⟨M, 0, none⟩)) 3, .quiet (.pointer (some ⟨M, 0, none⟩)) 3, .quiet (.pointer (some ⟨M, 1, none⟩)) 3, .quiet (.agg #[.int .i64 next, .slice ha hn' hc]) 0, .quiet (.int .i64 n) 3, .quiet (.agg #[.int .i64 p.seq, .int .i64 p.time, .bool p.f, .bool p.e, .bool p.k, .string p.t]) 3, .quiet (.agg #[.int .i64 n, .int .i64 p.seq, .int .i64 p.time, .bool p.f, .bool p.e, .bool p.k, .string p.t]) 3, .step 0, .fin 0 (exT 0), .fin 0 (exT 1), .fin 0 (exT 2), .step 1, .step 2] [9, 13, 14] (by kernel_rfl)
    (fun s r _ w' => (0 < s → ∃ pa pn pc qa qn qc, r 0 = .tuple #[.agg #[.int .i64 N1, .slice pa pn pc], .slice qa qn qc, .int .i64 0]) ∧ (match s with
      | 0 => Below W.heap.size W w'
      | 1 => Below W.heap.size W w' ∧ ∃ pa pn pc qa qn qc, r 0 = .tuple #[.agg #[.int .i64 N1, .slice pa pn pc], .slice qa qn qc, .int .i64 0] ∧ SlsIn (fun g => S g ∧ g ≠ M) w' (.slice pa pn pc) h1 ∧ SlsIn (fun g => g ≠ M) w' (.slice qa qn qc) o1
      | 2 => Kept [M] W w' ∧ r 1 = .int .i64 R.2.2 ∧ (R.2.2 = 0 → TkB S M w' R.1 (R.2.1 : Nat))
      | _ => Kept [M] W w' ∧ r 2 = .int .i64 R.2.2 ∧ (R.2.2 = 0 → TkB S M w' R.1 (R.2.1 : Nat))
      )) ⟨fun h => absurd h (Nat.lt_irrefl _), (Below.refl _ W).drew⟩ ?step ?fin
  case step =>
    intro i o ho a' w' s r b ⟨hr0, hI⟩ hfree hvals hbx
    have f0 : a'.eval (.tmp 0) = .pointer (some ⟨M, 0, none⟩) := (hfree 0 (by kernel_rfl)).trans rfl
    have f7 : a'.eval (.tmp 7) = .int .i64 n := (hfree 7 (by kernel_rfl)).trans rfl
    have f5 : a'.eval (.tmp 5) = .pointer (some ⟨B, 0, none⟩) := (hfree 5 (by kernel_rfl)).trans rfl
    match i, ho with
    | 0, ho =>
      simp at ho; subst ho
      show s ≤ 3 → (execOp a'.eval _).run _ w' = .ok (.value _) w'
      intro hs
      generalize a'.eval = ρ at *
      simp [execOp, go_sem, f0]
    | 1, ho =>
      simp at ho; subst ho
      show s ≤ 3 → (execOp a'.eval _).run _ w' = .ok (.value _) w'
      intro hs
      generalize a'.eval = ρ at *
      simp [execOp, go_sem, f0]
    | 2, ho =>
      simp at ho; subst ho
      show s ≤ 3 → (execOp a'.eval _).run _ w' = .ok (.value _) w'
      intro hs
      have e37 : a'.eval (.tmp 37) = .pointer (some ⟨M, 0, none⟩) := hvals 1 _ _ (by kernel_rfl) rfl rfl
      generalize a'.eval = ρ at *
      simp [execOp, go_sem, e37]
    | 3, ho =>
      simp at ho; subst ho
      show s ≤ 3 → (execOp a'.eval _).run _ w' = .ok (.value _) w'
      intro hs
      have e38 : a'.eval (.tmp 38) = .pointer (some ⟨M, 0, none⟩) := hvals 2 _ _ (by kernel_rfl) rfl rfl
      generalize a'.eval = ρ at *
      simp [execOp, go_sem, e38]
    | 4, ho =>
      simp at ho; subst ho
      show s ≤ 3 → (execOp a'.eval _).run _ w' = .ok (.value _) w'
      intro hs
      have e39 : a'.eval (.tmp 39) = .pointer (some ⟨M, 0, none⟩) := hvals 3 _ _ (by kernel_rfl) rfl rfl
      generalize a'.eval = ρ at *
      simp [execOp, go_sem, e39]
    | 5, ho =>
      simp at ho; subst ho
      show s ≤ 0 → (execOp a'.eval _).run _ w' = .ok (.value _) w'
      intro hs
      have e40 : a'.eval (.tmp 40) = .pointer (some ⟨M, 1, none⟩) := hvals 4 _ _ (by kernel_rfl) rfl rfl
      obtain rfl : s = 0 := by omega
      have hB : Below W.heap.size W w' := hI
      obtain ⟨y0, y1, y2, y3, y4, y5, y6, y7⟩ := (HMW.out.below hB HMW.out.lt).eight
      generalize a'.eval = ρ at *
      simp [execOp, go_sem, e40, y1, y2]
    | 6, ho =>
      simp at ho; subst ho
      show s ≤ 3 → (execOp a'.eval _).run _ w' = .ok (.value _) w'
      intro hs
      generalize a'.eval = ρ at *
      simp [execOp, go_sem, f7]
    | 7, ho =>
      simp at ho; subst ho
      show s ≤ 3 → (execOp a'.eval _).run _ w' = .ok (.value _) w'
      intro hs
      have hPB : Blk w' B #[.int .i64 p.seq, .int .i64 p.time, .bool p.f, .bool p.e, .bool p.k, .string p.t] 89 := by
        match s, hI with
        | 0, hI => exact HPW.out.below hI HPW.out.lt
        | 1, hI => exact HPW.out.below hI.1 HPW.out.lt
        | 2, hI => exact HPW.out.kept hI.1 (by simpa using hBM)
        | n + 3, hI => exact HPW.out.kept hI.1 (by simpa using hBM)
      obtain ⟨j0, j1, j2, j3, j4, j5⟩ := hPB.sixc
      generalize a'.eval = ρ at *
      simp [execOp, go_sem, f5, j0, j1, j2, j3, j4, j5]
    | 8, ho =>
      simp at ho; subst ho
      show s ≤ 3 → (execOp a'.eval _).run _ w' = .ok (.value _) w'
      intro hs
      have e42 : a'.eval (.tmp 42) = .int .i64 n := hvals 6 _ _ (by kernel_rfl) rfl rfl
      have e43 : a'.eval (.tmp 43) = .agg #[.int .i64 p.seq, .int .i64 p.time, .bool p.f, .bool p.e, .bool p.k, .string p.t] := hvals 7 _ _ (by kernel_rfl) rfl rfl
      generalize a'.eval = ρ at *
      simp [execOp, go_sem, e42, e43]
    | 9, ho =>
      simp at ho; subst ho
      have e41 : a'.eval (.tmp 41) = .agg #[.int .i64 next, .slice ha hn' hc] := hvals 5 _ _ (by kernel_rfl) rfl rfl
      have e44 : a'.eval (.tmp 44) = .agg #[.int .i64 n, .int .i64 p.seq, .int .i64 p.time, .bool p.f, .bool p.e, .bool p.k, .string p.t] := hvals 8 _ _ (by kernel_rfl) rfl rfl
      show s = 0 → _
      intro hs
      subst hs
      have hB : Below W.heap.size W w' := hI
      have ef : a'.eval (.func 113) = .func (.func 113) #[] #[] := rfl
      refine oper_wp_call (f := 113) (args := #[.agg #[.int .i64 next, .slice ha hn' hc], .agg #[.int .i64 n, .int .i64 p.seq, .int .i64 p.time, .bool p.f, .bool p.e, .bool p.k, .string p.t]]) ?_ ((HPUT.out w' hB).mono ?_)
      · generalize a'.eval = ρ at *
        simp [execOp, go_sem, e41, e44, ef]
      · rintro e w'' ⟨pa, pn, pc, qa, qn, qc, rfl, q1, q2, b1⟩
        exact ⟨_, rfl, _, rfl, fun _ => ⟨pa, pn, pc, qa, qn, qc, updR_at _ _ _⟩, hB.trans (b1.mono hB.size), pa, pn, pc, qa, qn, qc, updR_at _ _ _, q1.out, q2.out⟩
    | 10, ho =>
      simp at ho; subst ho
      have e45 : a'.eval (.tmp 45) = r 0 := hvals 9 _ _ (by kernel_rfl) rfl rfl
      show 0 < s → (execOp a'.eval _).run _ w' = .ok (.value _) w'
      intro hs
      obtain ⟨pa, pn, pc, qa, qn, qc, er⟩ : ∃ pa pn pc qa qn qc, r 0 = .tuple #[.agg #[.int .i64 N1, .slice pa pn pc], .slice qa qn qc, .int .i64 0] := hr0 hs
      rw [er] at e45 ⊢
      simp only [exT] at e45 ⊢
      generalize a'.eval = ρ at *
      simp [execOp, go_sem, e45]
    | 11, ho =>
      simp at ho; subst ho
      have e45 : a'.eval (.tmp 45) = r 0 := hvals 9 _ _ (by kernel_rfl) rfl rfl
      show 0 < s → (execOp a'.eval _).run _ w' = .ok (.value _) w'
      intro hs
      obtain ⟨pa, pn, pc, qa, qn, qc, er⟩ : ∃ pa pn pc qa qn qc, r 0 = .tuple #[.agg #[.int .i64 N1, .slice pa pn pc], .slice qa qn qc, .int .i64 0] := hr0 hs
      rw [er] at e45 ⊢
      simp only [exT] at e45 ⊢
      generalize a'.eval = ρ at *
      simp [execOp, go_sem, e45]
    | 12, ho =>
      simp at ho; subst ho
      have e45 : a'.eval (.tmp 45) = r 0 := hvals 9 _ _ (by kernel_rfl) rfl rfl
      show 0 < s → (execOp a'.eval _).run _ w' = .ok (.value _) w'
      intro hs
      obtain ⟨pa, pn, pc, qa, qn, qc, er⟩ : ∃ pa pn pc qa qn qc, r 0 = .tuple #[.agg #[.int .i64 N1, .slice pa pn pc], .slice qa qn qc, .int .i64 0] := hr0 hs
      rw [er] at e45 ⊢
      simp only [exT] at e45 ⊢
      generalize a'.eval = ρ at *
      simp [execOp, go_sem, e45]
    | 13, ho =>
      simp at ho; subst ho
      show s = 1 → _
      intro hs
      subst hs
      obtain ⟨hB, pa, pn, pc, qa, qn, qc, er, q1, q2⟩ := hI
      have e36 : a'.eval (.tmp 36) = .pointer (some ⟨M, 0, none⟩) := hvals 0 _ _ (by kernel_rfl) rfl rfl
      have e46 : a'.eval (.tmp 46) = .agg #[.int .i64 N1, .slice pa pn pc] := (hvals 10 _ _ (by kernel_rfl) rfl rfl).trans (by show exT 0 (r 0) = _; rw [er]; rfl)
      have e47 : a'.eval (.tmp 47) = .slice qa qn qc := (hvals 11 _ _ (by kernel_rfl) rfl rfl).trans (by show exT 1 (r 0) = _; rw [er]; rfl)
      have e48 : a'.eval (.tmp 48) = .int .i64 0 := (hvals 12 _ _ (by kernel_rfl) rfl rfl).trans (by show exT 2 (r 0) = _; rw [er]; rfl)
      have ef : a'.eval (.func 112) = .func (.func 112) #[] #[] := rfl
      refine oper_wp_call (f := 112) (args := #[.pointer (some ⟨M, 0, none⟩), .agg #[.int .i64 N1, .slice pa pn pc], .slice qa qn qc, .int .i64 0]) ?_ ((HPASS.out w' _ _ hB q1 q2).mono ?_)
      · generalize a'.eval = ρ at *
        simp [execOp, go_sem, e36, e46, e47, e48, ef]
      · rintro e w'' ⟨rfl, a1, a2⟩
        exact ⟨_, rfl, _, rfl, fun _ => ⟨pa, pn, pc, qa, qn, qc, by rw [updR_ne (by omega)]; exact er⟩, a2.out, updR_at _ _ _, a1.out⟩
    | 14, ho =>
      simp at ho; subst ho
      show s = 2 → _
      intro hs
      subst hs
      obtain ⟨k1, er, k2⟩ := hI
      have e49 : a'.eval (.tmp 49) = .int .i64 R.2.2 := (hvals 13 _ _ (by kernel_rfl) rfl rfl).trans er
      obtain ⟨pa, pn, pc, qa, qn, qc, er0⟩ := hr0 (by omega)
      refine oper_wp_ok (v := .int .i64 R.2.2) (w' := w') ?_ ⟨_, rfl, fun _ => ⟨pa, pn, pc, qa, qn, qc, by rw [updR_ne (by omega)]; exact er0⟩, k1, updR_at _ _ _, k2⟩
      generalize a'.eval = ρ at *
      simp [execOp, go_sem, e49]
    | i + 15, ho => simp at ho
  case fin =>
    rintro r b w7 ⟨hr0, k1, er, k2⟩ _
    obtain ⟨pa, pn, pc, qa, qn, qc, er0⟩ := hr0 (by decide)
    simp only [putM, Cm.out, er, er0, exT, Act.put, List.setIfInBounds_toArray, List.set_cons_succ, List.set_cons_zero]
    have K1 : Hid (Kept [M] W w7) := k1
    have K2 : Hid (R.2.2 = 0 → TkB S M w7 R.1 (R.2.1 : Nat)) := k2
    clear k1 k2 er er0 hr0
    go_wp2
    go_ret
    rw [HRF.out]
    exact ⟨rfl, K2.out, HKW.out.trans K1.out⟩

end Go.Proofs.YtnpaejknoipicafGreat

namespace Go.Proofs.YtnpaejknoipicafGreat
open Go.RowKit

set_option maxHeartbeats 4000000 in
set_option maxRecDepth 100000 in
/-- of a group that may be empty, too -/
theorem cloneGroupO_any (S : Nat → Prop) (v : Value) (l : List Fr) (w : World) (hv : FrsIn S w v l) (h6 : l.length ≤ 6) (hck : ∀ k, k < l.length → (frAt l k).chk = 0) :
    Calls Tryz.prog 57 #[.agg #[v]] w fun e w' => ∃ a c, e = .returned (.agg #[.slice a l.length c]) ∧ FrsIn (fun g => w.heap.size ≤ g) w' (.slice a l.length c) l ∧ Below w.heap.size w w' := by
  obtain ⟨va, vc, ev, _, _⟩ := hv.len
  obtain ⟨n, hn⟩ : ∃ n, n = l.length := ⟨_, rfl⟩
  have HN : Hid (n = l.length) := hn
  have HV : Hid (FrsIn S w v l) := hv
  have HC : Hid (∀ U, Below w.heap.size w U → Calls Tryz.prog 102 #[v, .func (.func 103) #[] #[]] U fun e w' => ∃ a c, e = .returned (.slice a n c) ∧ Hid (FrsIn (fun g => U.heap.size ≤ g) w' (.slice a n c) l) ∧ Below U.heap.size U w') := fun U hU => by
    refine (cloneFrs_any S v l U (HV.out.below hU) h6 hck).mono ?_
    rintro e w' ⟨u, rfl, ho, hb⟩
    have hf : FrsIn (fun g => U.heap.size ≤ g) w' u l := ho.frsIn (fun g _ h => h.1) (fun g hg => (ho.lt g hg).1)
    obtain ⟨a, c, e, _, _⟩ := hf.len
    rw [← hn] at e
    subst e
    exact ⟨a, c, rfl, hf, hb⟩
  rw [← hn] at ev ⊢
  clear hv hck hn h6
  subst ev
  go_enter Tryz.func57, Tryz.ntmps57
  go_wp2_with fail
  have B1 : Hid (Below w.heap.size w ((w.alloc (.cells #[.slice va n vc] 25)).alloc (.cells #[.slice none 0 0] 25))) := ((Below.refl _ _).alloc (Nat.le_refl _) _).alloc (by simp) _
  have K1 : Hid (Blk ((w.alloc (.cells #[.slice va n vc] 25)).alloc (.cells #[.slice none 0 0] 25)) (w.heap.size + 1) #[.slice none 0 0] 25) := by
    have := Blk.new (w.alloc (.cells #[.slice va n vc] 25)) #[.slice none 0 0] 25
    simpa [Hid] using this
  refine (HC.out _ B1.out).mono ?_
  rintro e w2 ⟨a2, c2, rfl, HF, hb2⟩
  have B2 : Hid (Below w.heap.size w w2) := B1.out.trans (hb2.mono B1.out.size)
  have K2 := K1.out.below hb2 K1.out.lt
  have r0 := K2.one
  have r1 := K2.free 0
  have c9 : (w2.setCell ⟨w.heap.size + 1, 0, none⟩ (.slice a2 n c2)).cell? ⟨w.heap.size + 1, 0, none⟩ = some (.slice a2 n c2) := (K2.set 0 _).cell rfl
  have F9 : Hid (FrsIn (fun g => w.heap.size ≤ g) (w2.setCell ⟨w.heap.size + 1, 0, none⟩ (.slice a2 n c2)) (.slice a2 n c2) l) := HF.out.to (SameOn.setCell (fun g hg => by simp at hg ⊢; omega) _) (fun g _ hg => by simp at hg; omega)
  clear hb2 K1 B1 K2 HF
  go_wp2
  exact bodyPost_ret (v := .agg #[.slice a2 n c2]) (by simp [results, Tryz.results57, go_sem, c9]) rfl ⟨a2, c2, rfl, F9.out, B2.out.setCell (by simp) _⟩

/-- between the steps: the box with the cells C, the result's box, the rows that are copied -/
def ClT (w U : World) (C : Array Value) (hv bv gv ov : Value) (t : Tr) : Prop :=
  Below w.heap.size w U ∧ Blk U w.heap.size C 61 ∧
  Blk U (w.heap.size + 1) #[.int .i64 0, .int .i64 0, .slice none 0 0, .slice none 0 0, .int .i64 0, .slice none 0 0, .slice none 0 0] 61 ∧
  w.heap.size + 2 ≤ U.heap.size ∧ TrIn (fun g => g < w.heap.size) U hv bv gv ov t
theorem ClT.go {w U U' : World} {C : Array Value} {hv bv gv ov : Value} {t : Tr} (h : ClT w U C hv bv gv ov t) (hb : Below U.heap.size U U') : ClT w U' C hv bv gv ov t := by
  obtain ⟨h1, h2, h3, h4, h5⟩ := h
  exact ⟨h1.trans (hb.mono h1.size), h2.below hb h2.lt, h3.below hb h3.lt, Nat.le_trans h4 hb.size, h5.below hb⟩
theorem ClT.set {w U : World} {C : Array Value} {hv bv gv ov : Value} {t : Tr} (h : ClT w U C hv bv gv ov t) (i : Nat) (v : Value) : ClT w (U.setCell ⟨w.heap.size, i, none⟩ v) (C.setIfInBounds i v) hv bv gv ov t := by
  obtain ⟨h1, h2, h3, h4, h5⟩ := h
  exact ⟨h1.setCell (by simp) _, h2.set i v, h3.other (a := ⟨w.heap.size, i, none⟩) (by simp) v, by simpa using h4, h5.to (SameOn.setCell (fun g hg => by simp at hg ⊢; omega) _) (fun g _ hg => hg)⟩
theorem sls_set {w U : World} {v : Value} {l : List Sk} (h : SlsIn (fun g => w.heap.size + 2 ≤ g) U v l) (i : Nat) (u : Value) : SlsIn (fun g => w.heap.size + 2 ≤ g) (U.setCell ⟨w.heap.size, i, none⟩ u) v l :=
  h.to (SameOn.setCell (fun g hg => by simp at hg ⊢; omega) _) (fun g _ hg => hg)
theorem grs_set {w U : World} {v : Value} {l : List (List Fr)} (h : GrsIn (fun g => w.heap.size + 2 ≤ g) U v l) (i : Nat) (u : Value) : GrsIn (fun g => w.heap.size + 2 ≤ g) (U.setCell ⟨w.heap.size, i, none⟩ u) v l :=
  h.to (SameOn.setCell (fun g hg => by simp at hg ⊢; omega) _) (fun g _ hg => hg)
theorem frs_set {w U : World} {v : Value} {l : List Fr} (h : FrsIn (fun g => w.heap.size + 2 ≤ g) U v l) (i : Nat) (u : Value) : FrsIn (fun g => w.heap.size + 2 ≤ g) (U.setCell ⟨w.heap.size, i, none⟩ u) v l :=
  h.to (SameOn.setCell (fun g hg => by simp at hg ⊢; omega) _) (fun g _ hg => hg)
/-- what the result's box holds, written cell by cell -/
theorem seven_out {w : World} {A : Nat} {t : TypeId} (h : Blk w A #[.int .i64 0, .int .i64 0, .slice none 0 0, .slice none 0 0, .int .i64 0, .slice none 0 0, .slice none 0 0] t) (x0 x1 x2 x3 x4 x5 x6 : Value) :
    Blk (((((((w.setCell ⟨A, 0, none⟩ x0).setCell ⟨A, 1, none⟩ x1).setCell ⟨A, 2, none⟩ x2).setCell ⟨A, 3, none⟩ x3).setCell ⟨A, 4, none⟩ x4).setCell ⟨A, 5, none⟩ x5).setCell ⟨A, 6, none⟩ x6) A #[x0, x1, x2, x3, x4, x5, x6] t :=
  ((((((h.set 0 x0).set 1 x1).set 2 x2).set 3 x3).set 4 x4).set 5 x5).set 6 x6

set_option maxHeartbeats 8000000 in
set_option maxRecDepth 100000 in
theorem cloneTrack_any (S : Nat → Prop) (t : Tr) (hv bv gv ov : Value) (w : World) (hr : TrIn S w hv bv gv ov t) (hck : t.chk = 0) :
    Calls Tryz.prog 109 #[.agg #[.int .i64 t.last, .int .i64 t.next, hv, bv, .int .i64 t.first, gv, ov]] w fun e w' => ∃ hv' bv' gv' ov', e = .returned (.agg #[.int .i64 t.last, .int .i64 t.next, hv', bv', .int .i64 t.first, gv', ov']) ∧ TrIn (fun g => w.heap.size ≤ g) w' hv' bv' gv' ov' t ∧ Below w.heap.size w w' := by
  obtain ⟨_, hR, hO, hS, _⟩ := Tr.chk_zero.1 hck
  obtain ⟨_, hl4, hch, _⟩ := hR
  obtain ⟨ho3, _, hco⟩ := ochk_len hO
  obtain ⟨_, _, hL5, hLg, _, hOg⟩ := stchk_zero.1 hS
  have h6 : t.O.length ≤ 6 ∧ ∀ k, k < t.O.length → (frAt t.O k).chk = 0 := by
    rcases hOg with h | h
    · rw [h]; exact ⟨by simp, fun k hk => absurd hk (by simp)⟩
    · obtain ⟨_, h1, h2⟩ := gchk_zero.1 h
      exact ⟨h1, fun k hk => (h2 k hk).1⟩
  obtain ⟨ha, hc, ba', bc, ga, gc, oa, oc, eh, eb, eg, eo⟩ := hr.slices
  have hr' : TrIn (fun g => g < w.heap.size) w hv bv gv ov t := hr.mono fun g hg _ => hg
  obtain ⟨nh, hnh⟩ : ∃ n, n = t.h.length := ⟨_, rfl⟩
  obtain ⟨no, hno⟩ : ∃ n, n = t.o.length := ⟨_, rfl⟩
  obtain ⟨ng, hng⟩ : ∃ n, n = t.L.length := ⟨_, rfl⟩
  obtain ⟨nO, hnO⟩ : ∃ n, n = t.O.length := ⟨_, rfl⟩
  have H1 : Hid (∀ U C, ClT w U C hv bv gv ov t → Calls Tryz.prog 92 #[hv] U fun e w' => ∃ a c, e = .returned (.slice a nh c) ∧ Hid (SlsIn (fun g => w.heap.size + 2 ≤ g) w' (.slice a nh c) t.h) ∧ Below U.heap.size U w') := fun U C hU => by
    refine (copyAll_any hv t.h U hU.2.2.2.2.1.1 (by omega) (fun x hx => Sk.chk_short (hch x hx))).mono ?_
    rintro e w' ⟨u, rfl, ho, hb⟩
    have hf : SlsIn (fun g => w.heap.size + 2 ≤ g) w' u t.h := SlsIn.of (Sls.of_owns ho) (by omega) (fun g hg _ => Nat.le_trans hU.2.2.2.1 (owns_blk ho hg).1)
    obtain ⟨a, c, e⟩ := hf.len
    rw [← hnh] at e
    subst e
    exact ⟨a, c, rfl, hf, hb⟩
  have H2 : Hid (∀ U C, ClT w U C hv bv gv ov t → Calls Tryz.prog 92 #[bv] U fun e w' => ∃ a c, e = .returned (.slice a no c) ∧ Hid (SlsIn (fun g => w.heap.size + 2 ≤ g) w' (.slice a no c) t.o) ∧ Below U.heap.size U w') := fun U C hU => by
    refine (copyAll_any bv t.o U hU.2.2.2.2.2.1.1 (by omega) (fun x hx => Sk.chk_short (hco x hx))).mono ?_
    rintro e w' ⟨u, rfl, ho, hb⟩
    have hf : SlsIn (fun g => w.heap.size + 2 ≤ g) w' u t.o := SlsIn.of (Sls.of_owns ho) (by omega) (fun g hg _ => Nat.le_trans hU.2.2.2.1 (owns_blk ho hg).1)
    obtain ⟨a, c, e⟩ := hf.len
    rw [← hno] at e
    subst e
    exact ⟨a, c, rfl, hf, hb⟩
  have H3 : Hid (∀ U C, ClT w U C hv bv gv ov t → Calls Tryz.prog 99 #[gv] U fun e w' => ∃ a c, e = .returned (.slice a ng c) ∧ Hid (GrsIn (fun g => w.heap.size + 2 ≤ g) w' (.slice a ng c) t.L) ∧ Below U.heap.size U w') := fun U C hU => by
    refine (cloneGroups_any _ gv t.L U hU.2.2.2.2.2.2.1 (by omega) hLg).mono ?_
    rintro e w' ⟨u, rfl, ho, hb⟩
    have hf : GrsIn (fun g => w.heap.size + 2 ≤ g) w' u t.L := ho.grsIn (fun g _ h => Nat.le_trans hU.2.2.2.1 h.1) (fun g hg => Nat.le_trans hU.2.2.2.1 (ho.lt g hg).1)
    obtain ⟨a, c, e, _, _⟩ := hf.len
    rw [← hng] at e
    subst e
    exact ⟨a, c, rfl, hf, hb⟩
  have H4 : Hid (∀ U C, ClT w U C hv bv gv ov t → Calls Tryz.prog 57 #[.agg #[ov]] U fun e w' => ∃ a c, e = .returned (.agg #[.slice a nO c]) ∧ Hid (FrsIn (fun g => w.heap.size + 2 ≤ g) w' (.slice a nO c) t.O) ∧ Below U.heap.size U w') := fun U C hU => by
    refine (cloneGroupO_any _ ov t.O U hU.2.2.2.2.2.2.2 h6.1 h6.2).mono ?_
    rintro e w' ⟨a, c, rfl, hf, hb⟩
    rw [← hnO] at hf ⊢
    exact ⟨a, c, rfl, hf.mono fun g _ h => Nat.le_trans hU.2.2.2.1 h, hb⟩
  rw [← hnh] at eh
  rw [← hno] at eb
  rw [← hng] at eg
  rw [← hnO] at eo
  obtain ⟨last, hla⟩ : ∃ x, x = t.last := ⟨_, rfl⟩
  obtain ⟨next, hne⟩ : ∃ x, x = t.next := ⟨_, rfl⟩
  obtain ⟨first, hfi⟩ : ∃ x, x = t.first := ⟨_, rfl⟩
  rw [← hla, ← hne, ← hfi]
  have HI : Hid (ClT w ((w.alloc (.cells #[.int .i64 last, .int .i64 next, hv, bv, .int .i64 first, gv, ov] 61)).alloc (.cells #[.int .i64 0, .int .i64 0, .slice none 0 0, .slice none 0 0, .int .i64 0, .slice none 0 0, .slice none 0 0] 61)) #[.int .i64 last, .int .i64 next, hv, bv, .int .i64 first, gv, ov] hv bv gv ov t) := by
    have b1 : Below w.heap.size w (w.alloc (.cells #[.int .i64 last, .int .i64 next, hv, bv, .int .i64 first, gv, ov] 61)) := (Below.refl _ _).alloc (Nat.le_refl _) _
    have k1 := Blk.new w #[.int .i64 last, .int .i64 next, hv, bv, .int .i64 first, gv, ov] 61
    have k2 := Blk.new (w.alloc (.cells #[.int .i64 last, .int .i64 next, hv, bv, .int .i64 first, gv, ov] 61)) #[.int .i64 0, .int .i64 0, .slice none 0 0, .slice none 0 0, .int .i64 0, .slice none 0 0, .slice none 0 0] 61
    have b2 : Below w.heap.size w ((w.alloc (.cells #[.int .i64 last, .int .i64 next, hv, bv, .int .i64 first, gv, ov] 61)).alloc (.cells #[.int .i64 0, .int .i64 0, .slice none 0 0, .slice none 0 0, .int .i64 0, .slice none 0 0, .slice none 0 0] 61)) := b1.alloc (by simp) _
    exact ⟨b2, k1.below ((Below.refl _ _).alloc (Nat.le_refl _) _) k1.lt, by simpa using k2, by simp, hr'.below b2⟩
  clear hla hne hfi hr hr' hck hO hS hl4 hch ho3 hco hL5 hLg hOg h6 hnh hno hng hnO
  subst eh eb eg eo
  go_enter Tryz.func109, Tryz.ntmps109
  obtain ⟨W, hW⟩ : ∃ W, W = (w.alloc (.cells #[.int .i64 last, .int .i64 next, .slice ha nh hc, .slice ba' no bc, .int .i64 first, .slice ga ng gc, .slice oa nO oc] 61)).alloc (.cells #[.int .i64 0, .int .i64 0, .slice none 0 0, .slice none 0 0, .int .i64 0, .slice none 0 0, .slice none 0 0] 61) := ⟨_, rfl⟩
  rw [← hW] at HI
  go_wp2_with fail
  rw [← hW]
  clear hW
  refine (H1.out W _ HI.out).mono ?_
  rintro e w1 ⟨a1, c1, rfl, D1, b1⟩
  have HI1 := HI.out.go b1
  clear b1 HI H1
  have f := HI1.2.1.free 2
  obtain ⟨y0, y1, y2, y3, y4, y5, y6⟩ := HI1.2.1.sevenc
  have J1 : Hid (ClT w (w1.setCell ⟨w.heap.size, 2, none⟩ (.slice a1 nh c1)) #[.int .i64 last, .int .i64 next, .slice a1 nh c1, .slice ba' no bc, .int .i64 first, .slice ga ng gc, .slice oa nO oc] (.slice ha nh hc) (.slice ba' no bc) (.slice ga ng gc) (.slice oa nO oc) t) := HI1.set 2 (.slice a1 nh c1)
  have D1' : Hid (SlsIn (fun g => w.heap.size + 2 ≤ g) (w1.setCell ⟨w.heap.size, 2, none⟩ (.slice a1 nh c1)) (.slice a1 nh c1) t.h) := sls_set D1.out 2 _
  clear D1 HI1
  go_wp2_with fail
  refine (H2.out _ _ J1.out).mono ?_
  rintro e w2 ⟨a2, c2, rfl, D2, b1⟩
  clear f y0 y1 y2 y3 y4 y5 y6
  have HI2 := J1.out.go b1
  have D1 : Hid (SlsIn (fun g => w.heap.size + 2 ≤ g) w2 (.slice a1 nh c1) t.h) := D1'.out.below b1
  clear b1 J1 D1' H2
  have f := HI2.2.1.free 3
  obtain ⟨y0, y1, y2, y3, y4, y5, y6⟩ := HI2.2.1.sevenc
  have J2 : Hid (ClT w (w2.setCell ⟨w.heap.size, 3, none⟩ (.slice a2 no c2)) #[.int .i64 last, .int .i64 next, .slice a1 nh c1, .slice a2 no c2, .int .i64 first, .slice ga ng gc, .slice oa nO oc] (.slice ha nh hc) (.slice ba' no bc) (.slice ga ng gc) (.slice oa nO oc) t) := HI2.set 3 (.slice a2 no c2)
  have D1' : Hid (SlsIn (fun g => w.heap.size + 2 ≤ g) (w2.setCell ⟨w.heap.size, 3, none⟩ (.slice a2 no c2)) (.slice a1 nh c1) t.h) := sls_set D1.out 3 _
  have D2' : Hid (SlsIn (fun g => w.heap.size + 2 ≤ g) (w2.setCell ⟨w.heap.size, 3, none⟩ (.slice a2 no c2)) (.slice a2 no c2) t.o) := sls_set D2.out 3 _
  clear D1 D2 HI2
  go_wp2_with fail
  refine (H3.out _ _ J2.out).mono ?_
  rintro e w3 ⟨a3, c3, rfl, D3, b1⟩
  clear f y0 y1 y2 y3 y4 y5 y6
  have HI3 := J2.out.go b1
  have D1 : Hid (SlsIn (fun g => w.heap.size + 2 ≤ g) w3 (.slice a1 nh c1) t.h) := D1'.out.below b1
  have D2 : Hid (SlsIn (fun g => w.heap.size + 2 ≤ g) w3 (.slice a2 no c2) t.o) := D2'.out.below b1
  clear b1 J2 D1' D2' H3
  have f := HI3.2.1.free 5
  obtain ⟨y0, y1, y2, y3, y4, y5, y6⟩ := HI3.2.1.sevenc
  have J3 : Hid (ClT w (w3.setCell ⟨w.heap.size, 5, none⟩ (.slice a3 ng c3)) #[.int .i64 last, .int .i64 next, .slice a1 nh c1, .slice a2 no c2, .int .i64 first, .slice a3 ng c3, .slice oa nO oc] (.slice ha nh hc) (.slice ba' no bc) (.slice ga ng gc) (.slice oa nO oc) t) := HI3.set 5 (.slice a3 ng c3)
  have D1' : Hid (SlsIn (fun g => w.heap.size + 2 ≤ g) (w3.setCell ⟨w.heap.size, 5, none⟩ (.slice a3 ng c3)) (.slice a1 nh c1) t.h) := sls_set D1.out 5 _
  have D2' : Hid (SlsIn (fun g => w.heap.size + 2 ≤ g) (w3.setCell ⟨w.heap.size, 5, none⟩ (.slice a3 ng c3)) (.slice a2 no c2) t.o) := sls_set D2.out 5 _
  have D3' : Hid (GrsIn (fun g => w.heap.size + 2 ≤ g) (w3.setCell ⟨w.heap.size, 5, none⟩ (.slice a3 ng c3)) (.slice a3 ng c3) t.L) := grs_set D3.out 5 _
  clear D1 D2 D3 HI3
  go_wp2_with fail
  refine (H4.out _ _ J3.out).mono ?_
  rintro e w4 ⟨a4, c4, rfl, D4, b1⟩
  clear f y0 y1 y2 y3 y4 y5 y6
  have HI4 := J3.out.go b1
  have D1 : Hid (SlsIn (fun g => w.heap.size + 2 ≤ g) w4 (.slice a1 nh c1) t.h) := D1'.out.below b1
  have D2 : Hid (SlsIn (fun g => w.heap.size + 2 ≤ g) w4 (.slice a2 no c2) t.o) := D2'.out.below b1
  have D3 : Hid (GrsIn (fun g => w.heap.size + 2 ≤ g) w4 (.slice a3 ng c3) t.L) := D3'.out.below b1
  clear b1 J3 D1' D2' D3' H4
  have f := HI4.2.1.free 6
  obtain ⟨y0, y1, y2, y3, y4, y5, y6⟩ := HI4.2.1.sevenc
  obtain ⟨W, hW⟩ : ∃ W, W = w4.setCell ⟨w.heap.size, 6, none⟩ (.slice a4 nO c4) := ⟨_, rfl⟩
  have J4 : Hid (ClT w W #[.int .i64 last, .int .i64 next, .slice a1 nh c1, .slice a2 no c2, .int .i64 first, .slice a3 ng c3, .slice a4 nO c4] (.slice ha nh hc) (.slice ba' no bc) (.slice ga ng gc) (.slice oa nO oc) t) := by rw [hW]; exact HI4.set 6 (.slice a4 nO c4)
  have DD : Hid (TrIn (fun g => w.heap.size + 2 ≤ g) W (.slice a1 nh c1) (.slice a2 no c2) (.slice a3 ng c3) (.slice a4 nO c4) t) := by rw [hW]; exact ⟨sls_set D1.out 6 _, sls_set D2.out 6 _, grs_set D3.out 6 _, frs_set D4.out 6 _⟩
  obtain ⟨z0, z1, z2, z3, z4, z5, z6⟩ := HI4.2.2.1.sevenc
  have g0 := HI4.2.2.1.free 0
  have g1 := HI4.2.2.1.free 1
  have g2 := HI4.2.2.1.free 2
  have g3 := HI4.2.2.1.free 3
  have g4 := HI4.2.2.1.free 4
  have g5 := HI4.2.2.1.free 5
  have g6 := HI4.2.2.1.free 6
  clear D1 D2 D3 D4 HI4
  go_wp2_with fail
  clear f y0 y1 y2 y3 y4 y5 y6 z0 z1 z2 z3 z4 z5 z6 g0 g1 g2 g3 g4 g5 g6
  rw [← hW]
  clear hW
  have KZ := seven_out J4.out.2.2.1 (.int .i64 last) (.int .i64 next) (.slice a1 nh c1) (.slice a2 no c2) (.int .i64 first) (.slice a3 ng c3) (.slice a4 nO c4)
  have hsame : SameOn (fun g => w.heap.size + 2 ≤ g) W (((((((W.setCell ⟨w.heap.size + 1, 0, none⟩ (.int .i64 last)).setCell ⟨w.heap.size + 1, 1, none⟩ (.int .i64 next)).setCell ⟨w.heap.size + 1, 2, none⟩ (.slice a1 nh c1)).setCell ⟨w.heap.size + 1, 3, none⟩ (.slice a2 no c2)).setCell ⟨w.heap.size + 1, 4, none⟩ (.int .i64 first)).setCell ⟨w.heap.size + 1, 5, none⟩ (.slice a3 ng c3)).setCell ⟨w.heap.size + 1, 6, none⟩ (.slice a4 nO c4)) := by
    refine ⟨by simp, fun g _ hg => ?_⟩
    have hne : g ≠ w.heap.size + 1 := by omega
    iterate 6 refine (Below.heap_setCell _ _ _ _ (by exact hne)).trans ?_
    exact Below.heap_setCell _ _ _ _ (by exact hne)
  have RES := DD.out.to (S' := fun g => w.heap.size ≤ g) hsame (fun g _ hg => by omega)
  have BZ : Below w.heap.size w (((((((W.setCell ⟨w.heap.size + 1, 0, none⟩ (.int .i64 last)).setCell ⟨w.heap.size + 1, 1, none⟩ (.int .i64 next)).setCell ⟨w.heap.size + 1, 2, none⟩ (.slice a1 nh c1)).setCell ⟨w.heap.size + 1, 3, none⟩ (.slice a2 no c2)).setCell ⟨w.heap.size + 1, 4, none⟩ (.int .i64 first)).setCell ⟨w.heap.size + 1, 5, none⟩ (.slice a3 ng c3)).setCell ⟨w.heap.size + 1, 6, none⟩ (.slice a4 nO c4)) :=
    ((((((J4.out.1.setCell (by simp) _).setCell (by simp) _).setCell (by simp) _).setCell (by simp) _).setCell (by simp) _).setCell (by simp) _).setCell (by simp) _
  obtain ⟨Z, hZ⟩ : ∃ Z, Z = (((((((W.setCell ⟨w.heap.size + 1, 0, none⟩ (.int .i64 last)).setCell ⟨w.heap.size + 1, 1, none⟩ (.int .i64 next)).setCell ⟨w.heap.size + 1, 2, none⟩ (.slice a1 nh c1)).setCell ⟨w.heap.size + 1, 3, none⟩ (.slice a2 no c2)).setCell ⟨w.heap.size + 1, 4, none⟩ (.int .i64 first)).setCell ⟨w.heap.size + 1, 5, none⟩ (.slice a3 ng c3)).setCell ⟨w.heap.size + 1, 6, none⟩ (.slice a4 nO c4)) := ⟨_, rfl⟩
  rw [← hZ] at KZ RES BZ ⊢
  clear hZ hsame J4 DD
  obtain ⟨q0, q1, q2, q3, q4, q5, q6⟩ := KZ.sevenc
  exact bodyPost_ret (v := .agg #[.int .i64 last, .int .i64 next, .slice a1 nh c1, .slice a2 no c2, .int .i64 first, .slice a3 ng c3, .slice a4 nO c4]) (by simp [results, Tryz.results109, go_sem, q0, q1, q2, q3, q4, q5, q6]) rfl ⟨_, _, _, _, rfl, RES, BZ⟩

end Go.Proofs.YtnpaejknoipicafGreat

namespace Go.Proofs.YtnpaejknoipicafGreat
open Go.RowKit

set_option maxHeartbeats 4000000 in
set_option maxRecDepth 100000 in
theorem trkBuilder_any (v : Value) (l : List Sk) (w : World) (hv : Sls w v l) (hlen : l.length ≤ 9223372036854775807) :
    Calls Tryz.prog 82 #[.agg #[v]] w fun e w' => e = .returned (.int .i64 (ochk l)) ∧ Below w.heap.size w w' := by
  obtain ⟨a, c, ev⟩ := hv.len
  obtain ⟨n, hn⟩ : ∃ n, n = l.length := ⟨_, rfl⟩
  rw [← hn] at ev
  obtain ⟨E, hE⟩ : ∃ E, E = ochk l := ⟨_, rfl⟩
  have hx : (Sk.mk 65536 Pk.zero).chk = 0 := by decide
  have HADD : Hid (∀ W : World, Below w.heap.size w W → Calls Tryz.prog 46 #[.agg #[v], .agg #[.int .i64 65536, .int .i64 0, .int .i64 0, .bool false, .bool false, .bool false, .string ⟨#[]⟩]] W fun e w' => ∃ oa on oc pa pn pc T K B, e = .returned (.tuple #[.agg #[.slice oa on oc], .agg #[.int .i64 T, .bool K, .slice pa pn pc], .bool B, .int .i64 E]) ∧ Below W.heap.size W w') := fun W hW => by
    refine (frameAdd_any v l ⟨65536, Pk.zero⟩ W (hv.below hW) hlen).mono ?_
    rintro e w' ⟨ov, pv, rfl, ⟨h1, h2, _⟩, h5⟩
    have e0 : addE l ⟨65536, Pk.zero⟩ = E := by
      unfold addE; rw [hE]
      by_cases h : ochk l = 0
      · rw [if_pos h, hx, h]
      · rw [if_neg h]
    obtain ⟨oa, oc, e1⟩ := h1.len
    obtain ⟨pa, pc, e2⟩ := h2.len
    subst e1 e2
    rw [e0]
    exact ⟨oa, _, oc, pa, _, pc, _, _, _, rfl, h5⟩
  rw [← hE]
  clear hE hx hn hv
  subst ev
  obtain ⟨W, hW⟩ : ∃ W, W = w.alloc (.cells #[.slice a n c] 59) := ⟨_, rfl⟩
  have HB : Hid (Below w.heap.size w W) := by rw [hW]; exact (Below.refl _ _).alloc (Nat.le_refl _) _
  go_enter Tryz.func82, Tryz.ntmps82
  go_wp2_with fail
  rw [← hW]
  clear hW
  refine (HADD.out W HB.out).mono ?_
  rintro e w1 ⟨oa, on, oc, pa, pn, pc, T, K, B, rfl, b1⟩
  have B1 : Hid (Below w.heap.size w w1) := HB.out.trans (b1.mono HB.out.size)
  obtain ⟨W2, hW2⟩ : ∃ W, W = (w1.alloc (.cells #[.slice oa on oc] 59)).alloc (.cells #[.int .i64 T, .bool K, .slice pa pn pc] 30) := ⟨_, rfl⟩
  have B2 : Hid (Below w.heap.size w W2) := by
    rw [hW2]; exact (B1.out.alloc B1.out.size _).alloc (by have := B1.out.size; simp; omega) _
  clear b1 B1
  go_wp2
  rw [← hW2]
  go_ret
  exact ⟨rfl, B2.out⟩

set_option maxHeartbeats 8000000 in
set_option maxRecDepth 100000 in
theorem trkCheck_any (S : Nat → Prop) (t : Tr) (hv bv gv ov : Value) (w : World) (hr : TrIn S w hv bv gv ov t) :
    Calls Tryz.prog 29 #[.agg #[.int .i64 t.last, .int .i64 t.next, hv, bv, .int .i64 t.first, gv, ov]] w fun e w' => e = .returned (.int .i64 t.chk) ∧ Below w.heap.size w w' := by
  obtain ⟨ha, hc, ba', bc, ga, gc, oa, oc, eh, eb, eg, eo⟩ := hr.slices
  obtain ⟨last, hlast⟩ : ∃ x, x = t.last := ⟨_, rfl⟩
  obtain ⟨next, hnext⟩ : ∃ x, x = t.next := ⟨_, rfl⟩
  obtain ⟨first, hfirst⟩ : ∃ x, x = t.first := ⟨_, rfl⟩
  obtain ⟨hn, hhn⟩ : ∃ x, x = t.h.length := ⟨_, rfl⟩
  obtain ⟨bn, hbn⟩ : ∃ x, x = t.o.length := ⟨_, rfl⟩
  obtain ⟨ln, hln⟩ : ∃ x, x = t.L.length := ⟨_, rfl⟩
  obtain ⟨lo, hlo⟩ : ∃ x, x = t.O.length := ⟨_, rfl⟩
  rw [← hhn] at eh
  rw [← hbn] at eb
  rw [← hln] at eg
  rw [← hlo] at eo
  obtain ⟨NB, hNB⟩ : ∃ b, b = Cn.isNB last := ⟨_, rfl⟩
  obtain ⟨EW, hEW⟩ : ∃ e : Int, e = if NB then 0 else 3 := ⟨_, rfl⟩
  have HEW : Hid (EW = if NB then 0 else 3) := hEW
  obtain ⟨BE, hBE⟩ : ∃ b, b = bchk next t.h := ⟨_, rfl⟩
  obtain ⟨OE, hOE⟩ : ∃ b, b = ochk t.o := ⟨_, rfl⟩
  obtain ⟨SE, hSE⟩ : ∃ b, b = stchk first t.L t.O := ⟨_, rfl⟩
  obtain ⟨C, hC⟩ : ∃ b, b = t.chk := ⟨_, rfl⟩
  have HC : Hid (C = if ¬ last = 0 ∧ NB = false then 3 else if BE = 0 then (if OE = 0 then (if SE = 0 then (if (last == 0) = (next == 0) then 0 else 4) else SE) else OE) else BE) := by
    show C = _
    rw [hC, hNB, hBE, hOE, hSE, hlast, hnext, hfirst]; rfl
  have HWR : Hid (∀ W : World, Calls Tryz.prog 80 #[.int .i64 last] W fun e w' => ∃ x, e = .returned (.tuple #[.int .i64 x, .int .i64 EW]) ∧ W = w') := fun W => by
    refine (wrap_any last W).mono ?_
    rintro e w' ⟨rfl, rfl⟩
    exact ⟨Cn.wrN last, by rw [hEW, hNB]; rfl, rfl⟩
  have HBC : Hid (∀ W : World, Below w.heap.size w W → Calls Tryz.prog 81 #[.agg #[.int .i64 next, hv]] W fun e w' => e = .returned (.int .i64 BE) ∧ Below W.heap.size W w') := fun W hW => by
    rw [hBE]; exact bufCheck_any next hv t.h W (hr.1.below hW).1 hr.1.2.1
  have HOC : Hid (∀ W : World, Below w.heap.size w W → Calls Tryz.prog 82 #[.agg #[bv]] W fun e w' => e = .returned (.int .i64 OE) ∧ Below W.heap.size W w') := fun W hW => by
    rw [hOE]; exact trkBuilder_any bv t.o W (hr.2.1.below hW).1 hr.2.1.2.1
  have HSC : Hid (∀ W : World, Below w.heap.size w W → Calls Tryz.prog 34 #[.agg #[.int .i64 first, gv, ov]] W fun e w' => e = .returned (.int .i64 SE) ∧ Below W.heap.size W w') := fun W hW => by
    rw [hSE]; exact storeCheck_any S first gv ov t.L t.O W (hr.2.2.1.below hW) (hr.2.2.2.below hW)
  rw [← hlast, ← hnext, ← hfirst, ← hC]
  clear hlast hnext hfirst hhn hbn hln hlo hNB hBE hOE hSE hC hr hEW
  subst eh eb eg eo
  obtain ⟨W0, hW0⟩ : ∃ W, W = w.alloc (.cells #[.int .i64 last, .int .i64 next, .slice ha hn hc, .slice ba' bn bc, .int .i64 first, .slice ga ln gc, .slice oa lo oc] 61) := ⟨_, rfl⟩
  have HS0 : Hid (Stay W0 (fun U => Blk U w.heap.size #[.int .i64 last, .int .i64 next, .slice ha hn hc, .slice ba' bn bc, .int .i64 first, .slice ga ln gc, .slice oa lo oc] 61 ∧ Below w.heap.size w U)) := by
    have hb : Below w.heap.size w W0 := by rw [hW0]; exact (Below.refl _ _).alloc (Nat.le_refl _) _
    exact (Blk.newE hW0).stay.and (below_stay hb hb.size)
  obtain ⟨y0, y1, y2, y3, y4, y5, y6⟩ := HS0.out.now.1.sevenc
  go_enter Tryz.func29, Tryz.ntmps29
  go_wp2_with fail
  rw [← hW0]
  clear hW0
  refine (HWR.out W0).mono ?_
  rintro e w1 ⟨x, rfl, rfl⟩
  have BW : Hid (Below w.heap.size w W0) := HS0.out.now.2
  by_cases h1 : ¬ last = 0 ∧ NB = false
  · have hc3 : Hid (C = 3) := by show C = _; rw [HC.out, if_pos h1]
    obtain ⟨h1a, h1b⟩ := h1
    have he3 : EW = 3 := by rw [HEW.out, h1b]; rfl
    subst he3
    clear HS0
    go_wp2
    go_ret
    rw [hc3.out]
    exact ⟨rfl, BW.out⟩
  have HC2 : Hid (C = if BE = 0 then (if OE = 0 then (if SE = 0 then (if (last == 0) = (next == 0) then 0 else 4) else SE) else OE) else BE) := by show C = _; rw [HC.out, if_neg h1]
  have hcond : (EW = 0) ∨ (EW = 3 ∧ last = 0) := by
    cases hb : NB
    · right
      refine ⟨by rw [HEW.out, hb]; rfl, ?_⟩
      by_cases h : last = 0
      · exact h
      · exact absurd ⟨h, hb⟩ h1
    · left; rw [HEW.out, hb]; rfl
  clear HC h1 HEW
  go_upto_region 2 with fail
  go_cut [20] (fun s20 wc => s20 = .bool false ∧ wc = W0)
  case first =>
    rcases hcond with h | ⟨h, h'⟩
    · subst h
      go_wp2_with fail
      go_meet
      case rel => exact ⟨rfl, rfl⟩
    · subst h h'
      go_wp2_with fail
      go_meet
      case rel => exact ⟨rfl, rfl⟩
  case rest =>
    obtain ⟨rfl, rfl⟩ := hcut
    clear hcond HWR
    go_wp2_with fail
    refine (HBC.out _ BW.out).mono ?_
    rintro e w1 ⟨rfl, b1⟩
    have HS1 := Stay.go HS0 b1
    clear b1 HS0 BW y0 y1 y2 y3 y4 y5 y6
    have BW : Hid (Below w.heap.size w w1) := HS1.out.now.2
    by_cases h1 : BE = 0
    case neg =>
      have hc3 : Hid (C = BE) := by show C = _; rw [HC2.out, if_neg h1]
      clear HS1
      go_wp2
      go_ret
      rw [hc3.out]
      exact ⟨rfl, BW.out⟩
    have HC3 : Hid (C = if OE = 0 then (if SE = 0 then (if (last == 0) = (next == 0) then 0 else 4) else SE) else OE) := by show C = _; rw [HC2.out, if_pos h1]
    subst h1
    clear HC2
    obtain ⟨y0, y1, y2, y3, y4, y5, y6⟩ := HS1.out.now.1.sevenc
    go_wp2_with fail
    refine (HOC.out _ BW.out).mono ?_
    rintro e w2 ⟨rfl, b1⟩
    have HS2 := Stay.go HS1 b1
    clear b1 HS1 BW y0 y1 y2 y3 y4 y5 y6
    have BW : Hid (Below w.heap.size w w2) := HS2.out.now.2
    by_cases h1 : OE = 0
    case neg =>
      have hc3 : Hid (C = OE) := by show C = _; rw [HC3.out, if_neg h1]
      clear HS2
      go_wp2
      go_ret
      rw [hc3.out]
      exact ⟨rfl, BW.out⟩
    have HC4 : Hid (C = if SE = 0 then (if (last == 0) = (next == 0) then 0 else 4) else SE) := by show C = _; rw [HC3.out, if_pos h1]
    subst h1
    clear HC3
    obtain ⟨y0, y1, y2, y3, y4, y5, y6⟩ := HS2.out.now.1.sevenc
    go_wp2_with fail
    refine (HSC.out _ BW.out).mono ?_
    rintro e w3 ⟨rfl, b1⟩
    have HS3 := Stay.go HS2 b1
    clear b1 HS2 BW y0 y1 y2 y3 y4 y5 y6
    have BW : Hid (Below w.heap.size w w3) := HS3.out.now.2
    by_cases h1 : SE = 0
    case neg =>
      have hc3 : Hid (C = SE) := by show C = _; rw [HC4.out, if_neg h1]
      clear HS3
      go_wp2
      go_ret
      rw [hc3.out]
      exact ⟨rfl, BW.out⟩
    have HC5 : Hid (C = if (last == 0) = (next == 0) then 0 else 4) := by show C = _; rw [HC4.out, if_pos h1]
    subst h1
    clear HC4
    obtain ⟨y0, y1, y2, y3, y4, y5, y6⟩ := HS3.out.now.1.sevenc
    clear HS3
    cases hl : (last == 0) <;> cases hx : (next == 0)
    · have hc3 : Hid (C = 0) := by show C = _; rw [HC5.out, hl, hx]; rfl
      go_wp2
      go_ret
      rw [hc3.out]
      exact ⟨rfl, BW.out⟩
    · have hc3 : Hid (C = 4) := by show C = _; rw [HC5.out, hl, hx]; rfl
      go_wp2
      go_ret
      rw [hc3.out]
      exact ⟨rfl, BW.out⟩
    · have hc3 : Hid (C = 4) := by show C = _; rw [HC5.out, hl, hx]; rfl
      go_wp2
      go_ret
      rw [hc3.out]
      exact ⟨rfl, BW.out⟩
    · have hc3 : Hid (C = 0) := by show C = _; rw [HC5.out, hl, hx]; rfl
      go_wp2
      go_ret
      rw [hc3.out]
      exact ⟨rfl, BW.out⟩

end Go.Proofs.YtnpaejknoipicafGreat

namespace Go.Proofs.YtnpaejknoipicafGreat
open Go.RowKit

section
variable {P : Program} {Q : Exit → Act → World → Prop}

/-- an operation that is done, or whose guard is not met -/
def StepG (P : Program) (ops : Array Oper) (o : Oper) (a : Act) (w : World) (K : Act → World → Prop) (Q : Exit → Act → World → Prop) : Prop :=
  (Region.wanted o (yielded ops a.tmps) = true ∧ o.wp P a w K Q) ∨ (Region.wanted o (yielded ops a.tmps) = false ∧ K (a.put o.dst undef) w)
theorem StepG.mono {ops : Array Oper} {o : Oper} {a : Act} {w : World} {K K' : Act → World → Prop} (h : ∀ a w, K a w → K' a w) (hh : StepG P ops o a w K Q) : StepG P ops o a w K' Q := by
  rcases hh with ⟨h1, h2⟩ | ⟨h1, h2⟩
  · exact .inl ⟨h1, Oper.wp_mono h h2⟩
  · exact .inr ⟨h1, h _ _ h2⟩
def regOkG (l : List Oper) : Bool := dstsApart l && (l.zipIdx.all fun p => p.1.after.all fun e => decide (e.on < p.2) || !(Region.binds .any e))
/-- a slot that none of the listed ones writes -/
theorem putL_other2 {L : Array Bool} {vs : Nat → Value} {x : Operand} : ∀ (l : List Oper) (k : Nat) (a : Act), (∀ j p, l[j]? = some p → L.getD (k + j) false = true → ∀ t, p.dst = some t → x ≠ .tmp t) → (putL L vs k l a).eval x = a.eval x
  | [], _, _, _ => rfl
  | o :: r, k, a, h => by
    simp only [putL]
    rw [putL_other2 r (k + 1) _ (fun j p hp hl => h (j + 1) p (by simpa using hp) (by rw [show k + (j + 1) = k + 1 + j by omega]; exact hl))]
    split
    · rename_i hk
      exact Act.eval_put (fun t ht => h 0 o (by simp) (by simpa using hk) t ht)
    · rfl
theorem tmps_of {a : Act} {k : Nat} {b : Bool} (he : a.eval (.tmp k) = .bool b) : a.tmps[k]? = some (.bool b) := by
  simp only [Act.eval, Array.getD_eq_getD_getElem?] at he
  cases hk : a.tmps[k]? with
  | none => rw [hk] at he; simp [undef] at he
  | some v => rw [hk] at he; simpa using he
/-- what a guard looks at -/
theorem yielded_of {ops : Array Oper} {a : Act} {j k : Nat} {oj : Oper} {b : Bool} (h : ops[j]? = some oj) (hd : oj.dst = some k) (he : a.eval (.tmp k) = .bool b) : yielded ops a.tmps j = some b := by
  unfold yielded
  rw [h, Option.bind_some, hd, Option.bind_some]
  have : a.tmps[k]? = some (.bool b) := by
    simp only [Act.eval, Array.getD_eq_getD_getElem?] at he
    cases hk : a.tmps[k]? with
    | none => rw [hk] at he; simp [undef] at he
    | some v => rw [hk] at he; simpa using he
  rw [this]

theorem wpAny_invG {md : Region.Mode} {ops : Array Oper} (I : Array Bool → Act → World → Prop)
    (hstep : ∀ L a w, L.size = ops.size → I L a w → ∀ (i : Nat) (o : Oper), ops[i]? = some o → L[i]? = some false → (∀ e ∈ o.after, Region.binds md e = true → L.getD e.on false = true) → StepG P ops o a w (fun a' w' => I (L.setIfInBounds i true) a' w') Q)
    (hend : ∀ L a w, L.size = ops.size → I L a w → Region.ready md ops L = [] → Q .normal a w) :
    ∀ (fuel : Nat) (L : Array Bool) (a : Act) (w : World), L.size = ops.size → left L ≤ fuel → I L a w → wpAny P md ops Q fuel L a w
  | 0, L, a, w, hs, hf, hI => by
    have hr : Region.ready md ops L = [] := by
      rw [List.eq_nil_iff_forall_not_mem]
      intro j hj
      have h := getD_false (mem_ready.1 hj).1
      have := left_set h
      omega
    exact ⟨hr, hend L a w hs hI hr⟩
  | fuel + 1, L, a, w, hs, hf, hI => by
    refine ⟨hend L a w hs hI, fun i hi => ?_⟩
    obtain ⟨h1, o, h2, h3⟩ := mem_ready.1 hi
    have h4 := getD_false h1
    unfold wpOp
    rcases hstep L a w hs hI i o h2 h4 h3 with ⟨hw, h⟩ | ⟨hw, h⟩
    · simp only [h2, hw, if_true]
      exact .inl (Oper.wp_mono (fun a' w' h => wpAny_invG I hstep hend fuel _ a' w' (by simpa using hs) (by have := left_set h4; omega) h) h)
    · simp only [h2, hw, Bool.false_eq_true, if_false]
      exact wpAny_invG I hstep hend fuel _ _ _ (by simpa using hs) (by have := left_set h4; omega) h

theorem wp_region_invG {id : Nat} {a : Act} {w : World} {l : List Oper} (hm : P.follows .mixedOrders = true) (hB : regOkG l = true) (F : Array Bool → (Nat → Value) → World → Prop)
    (h0 : F (Array.replicate l.length false) (fun _ => undef) { w with drawn := w.drawn + 1 })
    (hstep : ∀ L vs w', F L vs w' → ∀ (i : Nat) (o : Oper), l[i]? = some o → L[i]? = some false → (∀ e ∈ o.after, Region.binds .any e = true → L.getD e.on false = true) →
      StepG P l.toArray o (putL L vs 0 l a) w' (fun a' w'' => ∃ v, a' = (putL L vs 0 l a).put o.dst v ∧ F (L.setIfInBounds i true) (upd vs i v) w'') Q)
    (hend : ∀ L vs w', F L vs w' → (∀ i, i < l.length → L.getD i false = true) → Q .normal (putL L vs 0 l a) w') : (Code.region id l.toArray true).wp P Q a w := by
  simp only [regOkG, Bool.and_eq_true] at hB
  obtain ⟨hd, hA⟩ := hB
  refine wp_region_any hm ?_
  refine wpAny_invG (md := .any) (fun L a' w' => ∃ vs, a' = putL L vs 0 l a ∧ F L vs w') ?_ ?_ _ _ _ _ (by simp) ?_ ?_
  · rintro L a' w' hs ⟨vs, rfl, hF⟩ i o ho hL hrdy
    refine StepG.mono (fun a'' w'' ⟨v, h1, h2⟩ => ?_) (hstep L vs w' hF i o (by simpa using ho) hL hrdy)
    exact ⟨upd vs i v, by rw [h1, putL_set hL l 0 a o hd (Nat.zero_le _) (by simpa using ho)], h2⟩
  · rintro L a' w' hs ⟨vs, rfl, hF⟩ hr
    refine hend L vs w' hF (fun i hi => ?_)
    have := ready_nil hs (fun i o ho e he hb => ?_) hr i (by simpa using hi)
    · simp [Array.getD_eq_getD_getElem?, this]
    · have h1 : (o, i) ∈ l.zipIdx := by
        rw [List.mem_zipIdx_iff_getElem?]; simpa using ho
      have h2 := List.all_eq_true.1 hA _ h1
      rw [Array.all_eq_true_iff_forall_mem] at h2
      simpa [hb] using h2 e he
  · simp only [left]; exact Nat.le_trans List.countP_le_length (by simp)
  · refine ⟨fun _ => undef, ?_, by simpa using h0⟩
    have : ∀ (m : List Oper) (k : Nat) (a : Act), a = putL (Array.replicate l.toArray.size false) (fun _ => undef) k m a := by
      intro m
      induction m with
      | nil => intro k a; rfl
      | cons o r ih =>
        intro k a
        simp only [putL]
        rw [if_neg (by simp [Array.getD_eq_getD_getElem?, Array.getElem?_replicate]; split <;> simp)]
        exact ih (k + 1) a
    exact this l 0 a


theorem region_chainG {id : Nat} {a : Act} {w : World} {l : List Oper} (hm : P.follows .mixedOrders = true) (hB : regOkG l = true) (ks : List Ck) (st : List Nat) (hK : chainOk ks l st a.tmps.size = true)
    (I : Nat → (Nat → Value) → World → Prop) (h0 : I 0 (fun _ => undef) { w with drawn := w.drawn + 1 })
    (hstep : ∀ i o, l[i]? = some o → ∀ (a' : Act) (w' : World) (s : Nat) (r : Nat → Value), I s r w' → (∀ s, (l.zipIdx.all fun p => p.1.dst != some s || waits l p.2 i) = true → a'.eval (.tmp s) = a.eval (.tmp s)) → (∀ j oj k, waits l i j = true → l[j]? = some oj → oj.dst = some k → a'.eval (.tmp k) = (ckAt ks j).out r) →
      match ckAt ks i with
      | .quiet v lim => s ≤ lim → (Region.wanted o (yielded l.toArray a'.tmps) = true ∧ (execOp a'.eval o).run P w' = .ok (.value v) w') ∨ (Region.wanted o (yielded l.toArray a'.tmps) = false ∧ v = undef)
      | .step t => s = t → o.guard = none ∧ o.wp P a' w' (fun a'' w'' => ∃ v, a'' = a'.put o.dst v ∧ I (t + 1) (updR r t v) w'') Q)
    (hend : ∀ (r : Nat → Value) (w' : World), I st.length r w' → Q .normal (putC r ks l a) w') :
    (Code.region id l.toArray true).wp P Q a w := by
  simp only [chainOk, Bool.and_eq_true, decide_eq_true_eq] at hK
  obtain ⟨⟨⟨hlen, hdst⟩, hst⟩, hall⟩ := hK
  have hap : dstsApart l = true := by simp only [regOkG, Bool.and_eq_true] at hB; exact hB.1
  have hal : ∀ i, i < l.length → _ := fun i hi => List.all_eq_true.1 hall i (List.mem_range.2 hi)
  have hsl : ∀ s, s < st.length → _ := fun s hs => List.all_eq_true.1 hst s (List.mem_range.2 hs)
  have hstp : ∀ s, s < st.length → ∃ i, st[s]? = some i ∧ i < l.length ∧ ckAt ks i = .step s ∧ (0 < s → ∃ j, st[s - 1]? = some j ∧ waits l i j = true) := fun s hs => by
    have h := hsl s hs
    have e : st[s]? = some st[s] := List.getElem?_eq_getElem hs
    rw [e] at h
    simp only [Bool.and_eq_true, decide_eq_true_eq, Bool.or_eq_true, beq_iff_eq] at h
    refine ⟨st[s], e, h.1.1, ?_, fun h0 => ?_⟩
    · have h2 := h.1.2
      cases hk : ckAt ks st[s] with
      | quiet v lim => rw [hk] at h2; cases h2
      | step t => rw [hk] at h2; simp at h2; rw [h2]
    · have h3 := h.2
      rcases h3 with h3 | h3
      · omega
      · have e2 : st[s - 1]? = some st[s - 1] := List.getElem?_eq_getElem (by omega)
        rw [e2] at h3
        exact ⟨_, e2, h3⟩
  have hst2 : ∀ i t, i < l.length → ckAt ks i = .step t → st[t]? = some i := fun i t hi hk => by
    have h := hal i hi
    rw [hk] at h
    simpa using h
  refine wp_region_invG hm hB (fun L vs w' => ∃ s r, RC ks l l.length st.length I (fun j => L.getD j false) vs s r w') ?_ ?_ ?_
  · have hno : ∀ j, ¬ (Array.replicate l.length false).getD j false = true := fun j => by
      simp [Array.getD_eq_getD_getElem?, Array.getElem?_replicate]; split <;> simp
    exact ⟨0, fun _ => undef, fun i h => absurd h (hno i), fun i t _ _ => ⟨fun h => absurd h (hno i), fun h => absurd h (Nat.not_lt_zero _)⟩, fun i h => absurd h (hno i), h0, Nat.zero_le _, fun _ j h => absurd h (hno j)⟩
  · rintro L vs w' ⟨s, r, F⟩ i o ho hL hr
    have hi : i < l.length := (List.getElem?_eq_some_iff.1 ho).1
    have ni : L.getD i false = false := by simpa using listed_no hL
    have hset := setfun hL
    have hwt : ∀ j, waits l i j = true → L.getD j false = true := fun j hw => waits_spec hw ho hr
    have hfree : ∀ s, (l.zipIdx.all fun p => p.1.dst != some s || waits l p.2 i) = true → (putL L vs 0 l a).eval (.tmp s) = a.eval (.tmp s) := fun s hs => putL_other2 l 0 a (fun j p hp hj t ht e => by
      injection e with e
      subst e
      rw [Nat.zero_add] at hj
      have h1 : (p, j) ∈ l.zipIdx := by rw [List.mem_zipIdx_iff_getElem?]; exact hp
      have := List.all_eq_true.1 hs _ h1
      simp only [ht, bne_self_eq_false, Bool.false_or] at this
      have h2 := F.closed i j hj this
      rw [h2] at ni
      cases ni)
    have hvals : ∀ j oj k, waits l i j = true → l[j]? = some oj → oj.dst = some k → (putL L vs 0 l a).eval (.tmp k) = (ckAt ks j).out r := fun j oj k hw hoj hk => by
      have h1 := hwt j hw
      have hk2 := List.all_eq_true.1 hdst oj (List.mem_of_getElem? hoj)
      rw [hk] at hk2
      rw [putL_at h1 l 0 a oj hap (Nat.zero_le _) (by simpa using hoj) hk (by simpa using hk2)]
      exact F.vals j h1
    have hs := hstep i o ho (putL L vs 0 l a) w' s r F.inv hfree hvals
    rw [hset]
    obtain ⟨ls, hls⟩ : ∃ ls : Nat → Bool, ls = fun j => L.getD j false := ⟨_, rfl⟩
    have hlsj : ∀ j, L.getD j false = ls j := fun j => by rw [hls]
    simp only [hlsj] at F ni hwt ⊢
    have hlt' : ∀ j, (decide (j = i) || ls j) = true → j < l.length := fun j hj => by
      simp only [Bool.or_eq_true, decide_eq_true_eq] at hj
      rcases hj with rfl | hj
      · exact hi
      · exact F.lt j hj
    have hcl : ∀ p j, (decide (j = i) || ls j) = true → waits l j p = true → (decide (p = i) || ls p) = true := fun p j hj hw => by
      simp only [Bool.or_eq_true, decide_eq_true_eq] at hj ⊢
      rcases hj with rfl | hj
      · exact .inr (hwt p hw)
      · exact .inr (F.closed p j hj hw)
    cases hk : ckAt ks i with
    | quiet v lim =>
      rw [hk] at hs
      have hle : s ≤ lim := by
        have h := hal i hi
        rw [hk] at h
        simp only [Bool.or_eq_true, decide_eq_true_eq] at h
        rcases h with h | h
        · exact Nat.le_trans F.le h
        · by_cases hlt : s ≤ lim
          · exact hlt
          · exfalso
            have hll : lim < st.length := by have := F.le; omega
            obtain ⟨j, e1, e2, e3, _⟩ := hstp lim hll
            rw [e1] at h
            have hlj := (F.steps j lim e2 e3).2 (by omega)
            rw [F.closed i j hlj h] at ni
            cases ni
      have hfin : ∃ v', (putL L vs 0 l a).put o.dst v = (putL L vs 0 l a).put o.dst v' ∧ ∃ s r, RC ks l l.length st.length I (fun j => decide (j = i) || ls j) (upd vs i v') s r w' := by
        refine ⟨v, rfl, s, r, hlt', ?_, ?_, F.inv, F.le, hcl⟩
        · intro j t hj hjk
          have e : j ≠ i := fun e => by subst e; rw [hk] at hjk; cases hjk
          simpa [e] using F.steps j t hj hjk
        · intro j hj
          by_cases e : j = i
          · subst e; rw [upd_at, hk]; rfl
          · rw [upd_ne e]; exact F.vals j (by simpa [e] using hj)
      rcases hs hle with ⟨hw, h⟩ | ⟨hw, hv⟩
      · exact .inl ⟨hw, oper_wp_ok h hfin⟩
      · exact .inr ⟨hw, by rw [← hv]; exact hfin⟩
    | step t =>
      rw [hk] at hs
      have hti := hst2 i t hi hk
      have htl : t < st.length := (List.getElem?_eq_some_iff.1 hti).1
      have hst' : s = t := by
        have h1 : ¬ t < s := fun h => by rw [(F.steps i t hi hk).2 h] at ni; cases ni
        by_cases h0 : t = 0
        · omega
        · obtain ⟨i', e1, e2, e3, e4⟩ := hstp t htl
          rw [hti] at e1
          injection e1 with e1
          subst e1
          obtain ⟨j, q1, q2⟩ := e4 (by omega)
          obtain ⟨j', r1, r2, r3, _⟩ := hstp (t - 1) (by omega)
          rw [q1] at r1
          injection r1 with r1
          subst r1
          have := (F.steps j (t - 1) r2 r3).1 (hwt j q2)
          omega
      subst hst'
      refine .inl ⟨by simp [Region.wanted, (hs rfl).1], Oper.wp_mono ?_ (hs rfl).2⟩
      rintro a'' w'' ⟨v, h1, h2⟩
      refine ⟨v, h1, s + 1, updR r s v, hlt', ?_, ?_, h2, htl, hcl⟩
      · intro j t' hj hjk
        by_cases e : j = i
        · subst e
          rw [hk] at hjk
          injection hjk with hjk
          subst hjk
          simp
        · have h3 := F.steps j t' hj hjk
          have hne : t' ≠ s := fun e' => by
            subst e'
            have := hst2 j t' hj hjk
            rw [hti] at this
            injection this with this
            exact e this.symm
          simp only [e, decide_false, Bool.false_or]
          rw [h3]; omega
      · intro j hj
        by_cases e : j = i
        · subst e; rw [upd_at, hk]; exact (updR_at r s v).symm
        · have hlj : ls j = true := by simpa [e] using hj
          rw [upd_ne e, F.vals j hlj]
          cases hkj : ckAt ks j with
          | quiet v' lim' => rfl
          | step t' =>
            have := (F.steps j t' (F.lt j hlj) hkj).1 hlj
            exact (updR_ne (by omega)).symm
  · rintro L vs w' ⟨s, r, F⟩ hlst
    have hs : s = st.length := by
      by_cases h : s < st.length
      · obtain ⟨i, e1, e2, e3, _⟩ := hstp s h
        have := (F.steps i s e2 e3).1 (hlst i e2)
        omega
      · have := F.le; omega
    subst hs
    rw [putC_all L vs r l 0 ks a hlen (fun i hi => by rw [Nat.zero_add]; exact hlst i hi) (fun i hi => by rw [Nat.zero_add]; exact F.vals i (hlst i hi))]
    exact hend r w' F.inv
end

end Go.Proofs.YtnpaejknoipicafGreat

namespace Go.Proofs.YtnpaejknoipicafGreat
open Go.RowKit

set_option maxHeartbeats 4000000 in
set_option maxRecDepth 100000 in
theorem feedFn_any (S : Nat → Prop) (M sb : Nat) (t : Tr) (s : List UInt8) (w : World) (hsb : Blk w sb #[.string (ba s)] 9) (hT : TkB S M w t (0 : Nat)) (hk : t.chk = 0) (hS : ∀ g, w.heap.size ≤ g → S g) :
    Calls Tryz.prog 66 #[.pointer (some ⟨M, 0, none⟩), .pointer (some ⟨sb, 0, none⟩)] w fun e w' => e = .returned (.int .i64 (feedR t s).2.2) ∧ ((feedR t s).2.2 = 0 → TkB S M w' (feedR t s).1 ((feedR t s).2.1 : Nat)) ∧ Kept [M] w w' := by
  obtain ⟨h1, h2, h3, h4, _⟩ := Tr.chk_zero.1 hk
  obtain ⟨R, hR⟩ : ∃ R, R = feedR t s := ⟨_, rfl⟩
  have HF : Hid (Calls Tryz.prog 67 #[.pointer (some ⟨M, 0, none⟩), .string (ba s)] w fun e w' => e = .returned (.int .i64 R.2.2) ∧ Hid (R.2.2 = 0 → TkB S M w' R.1 (R.2.1 : Nat)) ∧ Hid (Kept [M] w w')) := by rw [hR]; exact tkFeed_any S M t s w hT h1 h2 ⟨h3, h4⟩ hS
  rw [← hR]
  have c0 := hsb.one
  clear h1 h2 h3 h4 hk hR hT hS hsb
  go_enter Tryz.func66, Tryz.ntmps66
  go_wp2_with fail
  refine HF.out.mono ?_
  rintro e w1 ⟨rfl, a1, a2⟩
  go_wp2
  go_ret
  exact ⟨rfl, a1.out, a2.out⟩

set_option maxHeartbeats 4000000 in
set_option maxRecDepth 100000 in
theorem drainFn_any (S : Nat → Prop) (M : Nat) (t : Tr) (w : World) (hT : TkB S M w t (0 : Nat)) (hk : t.chk = 0) (hS : ∀ g, w.heap.size ≤ g → S g) :
    Calls Tryz.prog 68 #[.pointer (some ⟨M, 0, none⟩)] w fun e w' => e = .returned (.int .i64 (drainR t).2.2) ∧ ((drainR t).2.2 = 0 → TkB S M w' (drainR t).1 ((drainR t).2.1 : Nat)) ∧ Kept [M] w w' := by
  obtain ⟨h1, h2, h3, h4, _⟩ := Tr.chk_zero.1 hk
  obtain ⟨R, hR⟩ : ∃ R, R = drainR t := ⟨_, rfl⟩
  have HF : Hid (Calls Tryz.prog 69 #[.pointer (some ⟨M, 0, none⟩)] w fun e w' => e = .returned (.int .i64 R.2.2) ∧ Hid (R.2.2 = 0 → TkB S M w' R.1 (R.2.1 : Nat)) ∧ Hid (Kept [M] w w')) := by rw [hR]; exact tkDrain_any S M t w hT h2 ⟨h3, h4⟩ hS
  rw [← hR]
  clear h1 h2 h3 h4 hk hR hT hS
  go_enter Tryz.func68, Tryz.ntmps68
  go_wp2_with fail
  refine HF.out.mono ?_
  rintro e w1 ⟨rfl, a1, a2⟩
  go_wp2
  go_ret
  exact ⟨rfl, a1.out, a2.out⟩

/-- the result's box, written with a track of zeros -/
theorem zero_out {w : World} {A : Nat} {t : TypeId} (h : Blk w A #[.int .i64 0, .int .i64 0, .slice none 0 0, .slice none 0 0, .int .i64 0, .slice none 0 0, .slice none 0 0] t) :
    Blk (((((((w.setCell ⟨A, 0, none⟩ (.int .i64 0)).setCell ⟨A, 1, none⟩ (.int .i64 0)).setCell ⟨A, 2, none⟩ (.slice none 0 0)).setCell ⟨A, 3, none⟩ (.slice none 0 0)).setCell ⟨A, 4, none⟩ (.int .i64 0)).setCell ⟨A, 5, none⟩ (.slice none 0 0)).setCell ⟨A, 6, none⟩ (.slice none 0 0)) A #[.int .i64 0, .int .i64 0, .slice none 0 0, .slice none 0 0, .int .i64 0, .slice none 0 0, .slice none 0 0] t := seven_out h _ _ _ _ _ _ _
theorem seven_below {B A : Nat} {w V : World} (h : Below B w V) (hA : B ≤ A) (x0 x1 x2 x3 x4 x5 x6 : Value) : Below B w (((((((V.setCell ⟨A, 0, none⟩ x0).setCell ⟨A, 1, none⟩ x1).setCell ⟨A, 2, none⟩ x2).setCell ⟨A, 3, none⟩ x3).setCell ⟨A, 4, none⟩ x4).setCell ⟨A, 5, none⟩ x5).setCell ⟨A, 6, none⟩ x6) :=
  ((((((h.setCell (by exact hA) _).setCell (by exact hA) _).setCell (by exact hA) _).setCell (by exact hA) _).setCell (by exact hA) _).setCell (by exact hA) _).setCell (by exact hA) _
theorem seven_same {S : Nat → Prop} {A : Nat} {V : World} (hA : ¬ S A) (x0 x1 x2 x3 x4 x5 x6 : Value) : SameOn S V (((((((V.setCell ⟨A, 0, none⟩ x0).setCell ⟨A, 1, none⟩ x1).setCell ⟨A, 2, none⟩ x2).setCell ⟨A, 3, none⟩ x3).setCell ⟨A, 4, none⟩ x4).setCell ⟨A, 5, none⟩ x5).setCell ⟨A, 6, none⟩ x6) := by
  refine ⟨by simp, fun g _ hg => ?_⟩
  have hne : g ≠ A := fun e => hA (e ▸ hg)
  iterate 6 refine (Below.heap_setCell _ _ _ _ (by exact hne)).trans ?_
  exact Below.heap_setCell _ _ _ _ (by exact hne)

set_option maxHeartbeats 16000000 in
set_option maxRecDepth 100000 in
theorem trkChangeF_any (t : Tr) (s : List UInt8) (sb : Nat) (hv bv gv ov : Value) (w : World) (hr : TrIn (fun g => g < w.heap.size) w hv bv gv ov t) (hsb : Blk w sb #[.string (ba s)] 9) :
    Calls Tryz.prog 65 #[.agg #[.int .i64 t.last, .int .i64 t.next, hv, bv, .int .i64 t.first, gv, ov], .func (.func 66) #[] #[.pointer (some ⟨sb, 0, none⟩)]] w fun e w' => ∃ hv' bv' gv' ov', e = .returned (.tuple #[.agg #[.int .i64 (feedA t s).1.last, .int .i64 (feedA t s).1.next, hv', bv', .int .i64 (feedA t s).1.first, gv', ov'], .int .i64 (feedA t s).2.1, .int .i64 (feedA t s).2.2]) ∧ TrIn (fun g => w.heap.size ≤ g) w' hv' bv' gv' ov' (feedA t s).1 ∧ Below w.heap.size w w' := by
  obtain ⟨ha, hc, ba', bc, ga, gc, oa, oc, eh, eb, eg, eo⟩ := hr.slices
  obtain ⟨RT, RC, RE, hRR⟩ : ∃ RT RC RE, (RT, RC, RE) = feedR t s := ⟨_, _, _, rfl⟩
  obtain ⟨A, hA⟩ : ∃ A, A = feedA t s := ⟨_, rfl⟩
  obtain ⟨CK, hCK⟩ : ∃ c, c = t.chk := ⟨_, rfl⟩
  have HA : Hid (A = if CK = 0 then (RT, RC, RE) else (Tr.zero, 0, CK)) := by show A = _; rw [hA, hCK, hRR]; rfl
  have HHOW : Hid (CK = 0 → ∀ W M, Below w.heap.size w W → w.heap.size + 2 ≤ W.heap.size → TkB (fun g => w.heap.size + 2 ≤ g) M W t (0 : Nat) → Calls Tryz.prog 66 #[.pointer (some ⟨M, 0, none⟩), .pointer (some ⟨sb, 0, none⟩)] W fun e w' => e = .returned (.int .i64 RE) ∧ Hid (RE = 0 → TkB (fun g => w.heap.size + 2 ≤ g) M w' RT (RC : Nat)) ∧ Hid (Kept [M] W w')) := fun h W M hW hM hT => by
    refine (feedFn_any _ M sb t s W (hsb.below hW hsb.lt) hT (hCK ▸ h) (fun g hg => Nat.le_trans hM hg)).mono ?_
    rintro e w' ⟨rfl, a1, a2⟩
    rw [← hRR] at a1 ⊢
    exact ⟨rfl, a1, a2⟩
  have hbad : Hid (¬ RE = 0 → CK = 0 → RT = Tr.zero ∧ RC = 0) := fun h1 h2 => by
    have q := feedA_bad (t := t) (s := s)
    rw [← hA, HA.out, if_pos h2] at q
    exact q h1
  rw [← hA]
  clear hA
  have HCHK : Hid (∀ U C, ClT w U C hv bv gv ov t → Calls Tryz.prog 29 #[.agg #[.int .i64 t.last, .int .i64 t.next, hv, bv, .int .i64 t.first, gv, ov]] U fun e w' => e = .returned (.int .i64 CK) ∧ Below U.heap.size U w') := fun U C hU => by
    rw [hCK]; exact trkCheck_any _ t hv bv gv ov U hU.2.2.2.2
  have HCL : Hid (CK = 0 → ∀ U C, ClT w U C hv bv gv ov t → Calls Tryz.prog 109 #[.agg #[.int .i64 t.last, .int .i64 t.next, hv, bv, .int .i64 t.first, gv, ov]] U fun e w' => ∃ a1 n1 c1 a2 n2 c2 a3 n3 c3 a4 n4 c4, e = .returned (.agg #[.int .i64 t.last, .int .i64 t.next, .slice a1 n1 c1, .slice a2 n2 c2, .int .i64 t.first, .slice a3 n3 c3, .slice a4 n4 c4]) ∧ Hid (TrIn (fun g => w.heap.size + 2 ≤ g) w' (.slice a1 n1 c1) (.slice a2 n2 c2) (.slice a3 n3 c3) (.slice a4 n4 c4) t) ∧ Below U.heap.size U w') := fun h U C hU => by
    refine (cloneTrack_any _ t hv bv gv ov U hU.2.2.2.2 (hCK ▸ h)).mono ?_
    rintro e w' ⟨x1, x2, x3, x4, rfl, q, b⟩
    obtain ⟨a1, c1, a2, c2, a3, c3, a4, c4, e1, e2, e3, e4⟩ := q.slices
    subst e1 e2 e3 e4
    exact ⟨_, _, _, _, _, _, _, _, _, _, _, _, rfl, q.mono fun g _ hg => Nat.le_trans hU.2.2.2.1 hg, b⟩
  obtain ⟨nh, hnh⟩ : ∃ n, n = t.h.length := ⟨_, rfl⟩
  obtain ⟨no, hno⟩ : ∃ n, n = t.o.length := ⟨_, rfl⟩
  obtain ⟨ng, hng⟩ : ∃ n, n = t.L.length := ⟨_, rfl⟩
  obtain ⟨nO, hnO⟩ : ∃ n, n = t.O.length := ⟨_, rfl⟩
  rw [← hnh] at eh
  rw [← hno] at eb
  rw [← hng] at eg
  rw [← hnO] at eo
  obtain ⟨last, hla⟩ : ∃ x, x = t.last := ⟨_, rfl⟩
  obtain ⟨next, hne⟩ : ∃ x, x = t.next := ⟨_, rfl⟩
  obtain ⟨first, hfi⟩ : ∃ x, x = t.first := ⟨_, rfl⟩
  have HTK : Hid (∀ W M a1 n1 c1 a2 n2 c2 a3 n3 c3 a4 n4 c4, Blk W M #[.int .i64 last, .int .i64 next, .slice a1 n1 c1, .slice a2 n2 c2, .int .i64 first, .slice a3 n3 c3, .slice a4 n4 c4, .int .i64 0] 167 → TrIn (fun g => w.heap.size + 2 ≤ g ∧ g ≠ M) W (.slice a1 n1 c1) (.slice a2 n2 c2) (.slice a3 n3 c3) (.slice a4 n4 c4) t → TkB (fun g => w.heap.size + 2 ≤ g) M W t (0 : Nat)) := fun W M a1 n1 c1 a2 n2 c2 a3 n3 c3 a4 n4 c4 h1 h3 => by
    rw [hla, hne, hfi] at h1
    exact ⟨_, _, _, _, h1, h3⟩
  rw [← hla, ← hne, ← hfi] at HCHK HCL ⊢
  have HI : Hid (ClT w ((w.alloc (.cells #[.int .i64 last, .int .i64 next, hv, bv, .int .i64 first, gv, ov] 61)).alloc (.cells #[.int .i64 0, .int .i64 0, .slice none 0 0, .slice none 0 0, .int .i64 0, .slice none 0 0, .slice none 0 0] 61)) #[.int .i64 last, .int .i64 next, hv, bv, .int .i64 first, gv, ov] hv bv gv ov t) := by
    have b1 : Below w.heap.size w (w.alloc (.cells #[.int .i64 last, .int .i64 next, hv, bv, .int .i64 first, gv, ov] 61)) := (Below.refl _ _).alloc (Nat.le_refl _) _
    have k1 := Blk.new w #[.int .i64 last, .int .i64 next, hv, bv, .int .i64 first, gv, ov] 61
    have k2 := Blk.new (w.alloc (.cells #[.int .i64 last, .int .i64 next, hv, bv, .int .i64 first, gv, ov] 61)) #[.int .i64 0, .int .i64 0, .slice none 0 0, .slice none 0 0, .int .i64 0, .slice none 0 0, .slice none 0 0] 61
    have b2 : Below w.heap.size w ((w.alloc (.cells #[.int .i64 last, .int .i64 next, hv, bv, .int .i64 first, gv, ov] 61)).alloc (.cells #[.int .i64 0, .int .i64 0, .slice none 0 0, .slice none 0 0, .int .i64 0, .slice none 0 0, .slice none 0 0] 61)) := b1.alloc (by simp) _
    exact ⟨b2, k1.below ((Below.refl _ _).alloc (Nat.le_refl _) _) k1.lt, by simpa using k2, by simp, hr.below b2⟩
  clear hla hne hfi hr hnh hno hng hnO hsb hRR hCK
  subst eh eb eg eo
  go_enter Tryz.func65, Tryz.ntmps65
  obtain ⟨W, hW⟩ : ∃ W, W = (w.alloc (.cells #[.int .i64 last, .int .i64 next, .slice ha nh hc, .slice ba' no bc, .int .i64 first, .slice ga ng gc, .slice oa nO oc] 61)).alloc (.cells #[.int .i64 0, .int .i64 0, .slice none 0 0, .slice none 0 0, .int .i64 0, .slice none 0 0, .slice none 0 0] 61) := ⟨_, rfl⟩
  rw [← hW] at HI
  go_wp2_with fail
  rw [← hW]
  clear hW
  refine (HCHK.out W _ HI.out).mono ?_
  rintro e w1 ⟨rfl, b1⟩
  have HI1 : Hid (ClT w w1 #[.int .i64 last, .int .i64 next, .slice ha nh hc, .slice ba' no bc, .int .i64 first, .slice ga ng gc, .slice oa nO oc] (.slice ha nh hc) (.slice ba' no bc) (.slice ga ng gc) (.slice oa nO oc) t) := HI.out.go b1
  clear b1 HI HCHK W
  obtain ⟨y0, y1, y2, y3, y4, y5, y6⟩ := HI1.out.2.1.sevenc
  by_cases h1 : CK = 0
  case neg =>
    have KB : Hid (Blk w1 (w.heap.size + 1) #[.int .i64 0, .int .i64 0, .slice none 0 0, .slice none 0 0, .int .i64 0, .slice none 0 0, .slice none 0 0] 61) := HI1.out.2.2.1
    have BW : Hid (Below w.heap.size w w1) := HI1.out.1
    have HAe : Hid (A = (Tr.zero, 0, CK)) := by show A = _; rw [HA.out, if_neg h1]
    obtain ⟨z0, z1, z2, z3, z4, z5, z6⟩ := KB.out.sevenc
    have g0 := KB.out.free 0
    have g1 := KB.out.free 1
    have g2 := KB.out.free 2
    have g3 := KB.out.free 3
    have g4 := KB.out.free 4
    have g5 := KB.out.free 5
    have g6 := KB.out.free 6
    clear HHOW hbad HCL HTK HA HI1 y0 y1 y2 y3 y4 y5 y6
    go_wp2_with fail
    clear z0 z1 z2 z3 z4 z5 z6 g0 g1 g2 g3 g4 g5 g6
    have KZ := zero_out KB.out
    have BZ := seven_below BW.out (Nat.le_succ w.heap.size) (.int .i64 0) (.int .i64 0) (.slice none 0 0) (.slice none 0 0) (.int .i64 0) (.slice none 0 0) (.slice none 0 0)
    clear KB BW
    obtain ⟨Z, hZ⟩ : ∃ Z, Z = (((((((w1.setCell ⟨w.heap.size + 1, 0, none⟩ (.int .i64 0)).setCell ⟨w.heap.size + 1, 1, none⟩ (.int .i64 0)).setCell ⟨w.heap.size + 1, 2, none⟩ (.slice none 0 0)).setCell ⟨w.heap.size + 1, 3, none⟩ (.slice none 0 0)).setCell ⟨w.heap.size + 1, 4, none⟩ (.int .i64 0)).setCell ⟨w.heap.size + 1, 5, none⟩ (.slice none 0 0)).setCell ⟨w.heap.size + 1, 6, none⟩ (.slice none 0 0)) := ⟨_, rfl⟩
    rw [← hZ] at KZ BZ ⊢
    clear hZ
    obtain ⟨q0, q1, q2, q3, q4, q5, q6⟩ := KZ.sevenc
    exact bodyPost_ret (v := .tuple #[.agg #[.int .i64 0, .int .i64 0, .slice none 0 0, .slice none 0 0, .int .i64 0, .slice none 0 0, .slice none 0 0], .int .i64 0, .int .i64 CK]) (by simp [results, Tryz.results65, go_sem, q0, q1, q2, q3, q4, q5, q6]) rfl ⟨_, _, _, _, by rw [HAe.out]; rfl, by rw [HAe.out]; exact TrIn.zero _ _, BZ⟩
  subst h1
  have HA2 : Hid (A = (RT, RC, RE)) := by show A = _; rw [HA.out, if_pos rfl]
  clear HA
  go_wp2_with fail
  refine (HCL.out (by first | rfl | trivial) w1 _ HI1.out).mono ?_
  rintro e w2 ⟨a1, n1, c1, a2, n2, c2, a3, n3, c3, a4, n4, c4, rfl, HR2, b1⟩
  have HI2 : Hid (ClT w w2 #[.int .i64 last, .int .i64 next, .slice ha nh hc, .slice ba' no bc, .int .i64 first, .slice ga ng gc, .slice oa nO oc] (.slice ha nh hc) (.slice ba' no bc) (.slice ga ng gc) (.slice oa nO oc) t) := HI1.out.go b1
  clear b1 HI1 HCL y0 y1 y2 y3 y4 y5 y6
  obtain ⟨W3, hW3⟩ : ∃ W, W = w2.alloc (.cells #[.int .i64 last, .int .i64 next, .slice a1 n1 c1, .slice a2 n2 c2, .int .i64 first, .slice a3 n3 c3, .slice a4 n4 c4, .int .i64 0] 167) := ⟨_, rfl⟩
  have hsz2 : w.heap.size + 2 ≤ w2.heap.size := HI2.out.2.2.2.1
  have HTK3 : Hid (TkB (fun g => w.heap.size + 2 ≤ g) w2.heap.size W3 t (0 : Nat)) := HTK.out W3 w2.heap.size a1 n1 c1 a2 n2 c2 a3 n3 c3 a4 n4 c4 (Blk.newE hW3) (by rw [hW3]; exact HR2.out.to (SameOn.alloc _) (fun g hg h => ⟨by omega, by omega⟩))
  have KB3 : Hid (Blk W3 (w.heap.size + 1) #[.int .i64 0, .int .i64 0, .slice none 0 0, .slice none 0 0, .int .i64 0, .slice none 0 0, .slice none 0 0] 61) := by rw [hW3]; exact HI2.out.2.2.1.below ((Below.refl _ _).alloc (Nat.le_refl _) _) HI2.out.2.2.1.lt
  have BW3 : Hid (Below w.heap.size w W3) := by rw [hW3]; exact HI2.out.1.alloc HI2.out.1.size _
  have hsz3 : w.heap.size + 2 ≤ W3.heap.size := by rw [hW3]; simp; omega
  clear HTK HR2 HI2
  go_wp2_with fail
  rw [← hW3]
  clear hW3
  refine (HHOW.out (by first | rfl | trivial) W3 w2.heap.size BW3.out hsz3 HTK3.out).mono ?_
  rintro e w4 ⟨rfl, HT4, HK4⟩
  have KB : Hid (Blk w4 (w.heap.size + 1) #[.int .i64 0, .int .i64 0, .slice none 0 0, .slice none 0 0, .int .i64 0, .slice none 0 0, .slice none 0 0] 61) := KB3.out.kept HK4.out (by simp; omega)
  have BW : Hid (Below w.heap.size w w4) := BW3.out.trans (HK4.out.toBelow BW3.out.size (fun k hk => by simp at hk; omega))
  clear HHOW HTK3 KB3 BW3 HK4
  by_cases h1 : RE = 0
  case neg =>
    obtain ⟨q1, q2⟩ := hbad.out h1 (by first | rfl | trivial)
    have HAe : Hid (A = (Tr.zero, 0, RE)) := by show A = _; rw [HA2.out, q1, q2]
    clear q1 q2 HA2 hbad HT4
    obtain ⟨z0, z1, z2, z3, z4, z5, z6⟩ := KB.out.sevenc
    have g0 := KB.out.free 0
    have g1 := KB.out.free 1
    have g2 := KB.out.free 2
    have g3 := KB.out.free 3
    have g4 := KB.out.free 4
    have g5 := KB.out.free 5
    have g6 := KB.out.free 6
    go_wp2_with fail
    clear z0 z1 z2 z3 z4 z5 z6 g0 g1 g2 g3 g4 g5 g6
    have KZ := zero_out KB.out
    have BZ := seven_below BW.out (Nat.le_succ w.heap.size) (.int .i64 0) (.int .i64 0) (.slice none 0 0) (.slice none 0 0) (.int .i64 0) (.slice none 0 0) (.slice none 0 0)
    clear KB BW
    obtain ⟨Z, hZ⟩ : ∃ Z, Z = (((((((w4.setCell ⟨w.heap.size + 1, 0, none⟩ (.int .i64 0)).setCell ⟨w.heap.size + 1, 1, none⟩ (.int .i64 0)).setCell ⟨w.heap.size + 1, 2, none⟩ (.slice none 0 0)).setCell ⟨w.heap.size + 1, 3, none⟩ (.slice none 0 0)).setCell ⟨w.heap.size + 1, 4, none⟩ (.int .i64 0)).setCell ⟨w.heap.size + 1, 5, none⟩ (.slice none 0 0)).setCell ⟨w.heap.size + 1, 6, none⟩ (.slice none 0 0)) := ⟨_, rfl⟩
    rw [← hZ] at KZ BZ ⊢
    clear hZ
    obtain ⟨q0, q1, q2, q3, q4, q5, q6⟩ := KZ.sevenc
    exact bodyPost_ret (v := .tuple #[.agg #[.int .i64 0, .int .i64 0, .slice none 0 0, .slice none 0 0, .int .i64 0, .slice none 0 0, .slice none 0 0], .int .i64 0, .int .i64 RE]) (by simp [results, Tryz.results65, go_sem, q0, q1, q2, q3, q4, q5, q6]) rfl ⟨_, _, _, _, by rw [HAe.out]; rfl, by rw [HAe.out]; exact TrIn.zero _ _, BZ⟩
  clear hbad
  obtain ⟨v1, v2, v3, v4, K8, TR⟩ := HT4.out h1
  subst h1
  clear HT4
  obtain ⟨b1, d1, b2, d2, b3, d3, b4, d4, e1, e2, e3, e4⟩ := TR.slices
  obtain ⟨m1, hm1⟩ : ∃ n, n = RT.h.length := ⟨_, rfl⟩
  obtain ⟨m2, hm2⟩ : ∃ n, n = RT.o.length := ⟨_, rfl⟩
  obtain ⟨m3, hm3⟩ : ∃ n, n = RT.L.length := ⟨_, rfl⟩
  obtain ⟨m4, hm4⟩ : ∃ n, n = RT.O.length := ⟨_, rfl⟩
  rw [← hm1] at e1
  rw [← hm2] at e2
  rw [← hm3] at e3
  rw [← hm4] at e4
  subst e1 e2 e3 e4
  obtain ⟨la2, hl2⟩ : ∃ x, x = RT.last := ⟨_, rfl⟩
  obtain ⟨ne2, hn2⟩ : ∃ x, x = RT.next := ⟨_, rfl⟩
  obtain ⟨fi2, hf2⟩ : ∃ x, x = RT.first := ⟨_, rfl⟩
  obtain ⟨rc, hrc⟩ : ∃ x, x = (RC : Int) := ⟨_, rfl⟩
  rw [← hl2, ← hn2, ← hf2, ← hrc] at K8
  obtain ⟨V, hV⟩ : ∃ V, V = { w4 with drawn := w4.drawn + 1 } := ⟨_, rfl⟩
  obtain ⟨Z, hZ⟩ : ∃ Z, Z = (((((((V.setCell ⟨w.heap.size + 1, 0, none⟩ (.int .i64 la2)).setCell ⟨w.heap.size + 1, 1, none⟩ (.int .i64 ne2)).setCell ⟨w.heap.size + 1, 2, none⟩ (.slice b1 m1 d1)).setCell ⟨w.heap.size + 1, 3, none⟩ (.slice b2 m2 d2)).setCell ⟨w.heap.size + 1, 4, none⟩ (.int .i64 fi2)).setCell ⟨w.heap.size + 1, 5, none⟩ (.slice b3 m3 d3)).setCell ⟨w.heap.size + 1, 6, none⟩ (.slice b4 m4 d4)) := ⟨_, rfl⟩
  have hne : w2.heap.size ≠ w.heap.size + 1 := by omega
  have KMV : Hid (Blk V w2.heap.size #[.int .i64 la2, .int .i64 ne2, .slice b1 m1 d1, .slice b2 m2 d2, .int .i64 fi2, .slice b3 m3 d3, .slice b4 m4 d4, .int .i64 rc] 167) := by rw [hV]; exact K8.drew
  have KBV : Hid (Blk V (w.heap.size + 1) #[.int .i64 0, .int .i64 0, .slice none 0 0, .slice none 0 0, .int .i64 0, .slice none 0 0, .slice none 0 0] 61) := by rw [hV]; exact KB.out.drew
  have hsame : SameOn (fun g => g ≠ w.heap.size + 1) V Z := by rw [hZ]; exact seven_same (by simp) _ _ _ _ _ _ _
  have KMZ : Hid (Blk Z w2.heap.size #[.int .i64 la2, .int .i64 ne2, .slice b1 m1 d1, .slice b2 m2 d2, .int .i64 fi2, .slice b3 m3 d3, .slice b4 m4 d4, .int .i64 rc] 167) := (hsame.2 _ KMV.out.lt hne).trans KMV.out
  have KBZ : Hid (Blk Z (w.heap.size + 1) #[.int .i64 la2, .int .i64 ne2, .slice b1 m1 d1, .slice b2 m2 d2, .int .i64 fi2, .slice b3 m3 d3, .slice b4 m4 d4] 61) := by rw [hZ]; exact seven_out KBV.out _ _ _ _ _ _ _
  have HBZ : Hid (Below w.heap.size w Z) := by rw [hZ]; exact seven_below (by rw [hV]; exact BW.out.drew) (Nat.le_succ _) _ _ _ _ _ _ _
  have HEQ : Hid (Ending.returned (Value.tuple #[.agg #[.int .i64 la2, .int .i64 ne2, .slice b1 m1 d1, .slice b2 m2 d2, .int .i64 fi2, .slice b3 m3 d3, .slice b4 m4 d4], .int .i64 rc, .int .i64 0]) = Ending.returned (Value.tuple #[.agg #[.int .i64 A.1.last, .int .i64 A.1.next, .slice b1 m1 d1, .slice b2 m2 d2, .int .i64 A.1.first, .slice b3 m3 d3, .slice b4 m4 d4], .int .i64 A.2.1, .int .i64 A.2.2])) := by rw [hl2, hn2, hf2, hrc]; show _ = _; rw [HA2.out]
  have HTR : Hid (TrIn (fun g => w.heap.size ≤ g) Z (.slice b1 m1 d1) (.slice b2 m2 d2) (.slice b3 m3 d3) (.slice b4 m4 d4) A.1) := by
    show TrIn _ _ _ _ _ _ _
    rw [HA2.out]
    have q : TrIn (fun g => w.heap.size + 2 ≤ g ∧ g ≠ w2.heap.size) V (.slice b1 m1 d1) (.slice b2 m2 d2) (.slice b3 m3 d3) (.slice b4 m4 d4) RT := by rw [hV]; exact TR.to ⟨Nat.le_refl _, fun g _ _ => rfl⟩ (fun g _ h => h)
    exact q.to (hsame.mono fun g hg => by have := hg.1; omega) (fun g _ hg => by have := hg.1; omega)
  clear HA2 hl2 hn2 hf2 hrc hm1 hm2 hm3 hm4 K8 TR hsame
  go_wp2_with fail
  refine region_chainG (by kernel_rfl) (by kernel_rfl) [.quiet (.pointer (some ⟨w2.heap.size, 0, none⟩)) 3, .quiet (.agg #[.int .i64 la2, .int .i64 ne2, .slice b1 m1 d1, .slice b2 m2 d2, .int .i64 fi2, .slice b3 m3 d3, .slice b4 m4 d4]) 3, .quiet (.pointer (some ⟨w2.heap.size, 7, none⟩)) 3, .quiet (.int .i64 rc) 3, .step 0, .step 1, .step 2] [4, 5, 6] (by kernel_rfl)
    (fun s r w' => match s with
      | 0 => w' = V
      | 1 => w' = Z
      | 2 => w' = Z ∧ r 1 = .int .i64 rc
      | _ => w' = Z ∧ r 1 = .int .i64 rc ∧ r 2 = .int .i64 0
      ) hV.symm ?step ?fin
  case step =>
    intro i o ho a' w' s r hI hfree hvals
    have kx : Blk w' w2.heap.size #[.int .i64 la2, .int .i64 ne2, .slice b1 m1 d1, .slice b2 m2 d2, .int .i64 fi2, .slice b3 m3 d3, .slice b4 m4 d4, .int .i64 rc] 167 := by
      match s, hI with
      | 0, hI => rw [show w' = V from hI]; exact KMV.out
      | 1, hI => rw [show w' = Z from hI]; exact KMZ.out
      | 2, hI => rw [hI.1]; exact KMZ.out
      | n + 3, hI => rw [hI.1]; exact KMZ.out
    obtain ⟨a0, a1, a2, a3, a4, a5, a6, a7⟩ := kx.eight
    match i, ho with
    | 0, ho =>
      simp at ho; subst ho
      have e8 : a'.eval (.tmp 8) = .pointer (some ⟨w2.heap.size, 0, none⟩) := (hfree 8 (by kernel_rfl)).trans rfl
      show s ≤ 3 → _
      intro hs
      refine .inl ⟨rfl, ?_⟩
      generalize a'.eval = ρ at *
      simp [execOp, go_sem, e8]
    | 1, ho =>
      simp at ho; subst ho
      have e25 : a'.eval (.tmp 25) = .pointer (some ⟨w2.heap.size, 0, none⟩) := hvals 0 _ _ (by kernel_rfl) rfl rfl
      show s ≤ 3 → _
      intro hs
      refine .inl ⟨rfl, ?_⟩
      generalize a'.eval = ρ at *
      simp [execOp, go_sem, e25, a0, a1, a2, a3, a4, a5, a6]
    | 2, ho =>
      simp at ho; subst ho
      have e8 : a'.eval (.tmp 8) = .pointer (some ⟨w2.heap.size, 0, none⟩) := (hfree 8 (by kernel_rfl)).trans rfl
      show s ≤ 3 → _
      intro hs
      refine .inl ⟨rfl, ?_⟩
      generalize a'.eval = ρ at *
      simp [execOp, go_sem, e8]
    | 3, ho =>
      simp at ho; subst ho
      have e27 : a'.eval (.tmp 27) = .pointer (some ⟨w2.heap.size, 7, none⟩) := hvals 2 _ _ (by kernel_rfl) rfl rfl
      show s ≤ 3 → _
      intro hs
      refine .inl ⟨rfl, ?_⟩
      generalize a'.eval = ρ at *
      simp [execOp, go_sem, e27, a7]
    | 4, ho =>
      simp at ho; subst ho
      have e4 : a'.eval (.tmp 4) = .pointer (some ⟨w.heap.size + 1, 0, none⟩) := (hfree 4 (by kernel_rfl)).trans rfl
      have e26 : a'.eval (.tmp 26) = .agg #[.int .i64 la2, .int .i64 ne2, .slice b1 m1 d1, .slice b2 m2 d2, .int .i64 fi2, .slice b3 m3 d3, .slice b4 m4 d4] := hvals 1 _ _ (by kernel_rfl) rfl rfl
      show s = 0 → _ ∧ Oper.wp _ _ _ _ _ _
      intro hs
      subst hs
      refine ⟨rfl, ?_⟩
      have hw : w' = V := hI
      obtain ⟨t0, t1, t2, t3, t4, t5, t6⟩ := KBV.out.sevenc
      have fr := KBV.out.free
      refine oper_wp_skip (w' := Z) ?_ ⟨_, rfl, rfl⟩
      generalize a'.eval = ρ at *
      rw [hw, hZ]
      simp [execOp, go_sem, e4, e26, t0, t1, t2, t3, t4, t5, t6, fr]
    | 5, ho =>
      simp at ho; subst ho
      have e28 : a'.eval (.tmp 28) = .int .i64 rc := hvals 3 _ _ (by kernel_rfl) rfl rfl
      show s = 1 → _ ∧ Oper.wp _ _ _ _ _ _
      intro hs
      subst hs
      refine ⟨rfl, ?_⟩
      refine oper_wp_ok (v := .int .i64 rc) (w' := w') ?_ ⟨_, rfl, hI, updR_at _ _ _⟩
      generalize a'.eval = ρ at *
      simp [execOp, go_sem, e28]
    | 6, ho =>
      simp at ho; subst ho
      have ec0 : a'.eval (.const (.int .i64 0)) = .int .i64 0 := rfl
      show s = 2 → _ ∧ Oper.wp _ _ _ _ _ _
      intro hs
      subst hs
      refine ⟨rfl, ?_⟩
      obtain ⟨c0, c1⟩ := hI
      refine oper_wp_ok (v := .int .i64 0) (w' := w') ?_ ⟨_, rfl, c0, by rw [updR_ne (by omega)]; exact c1, updR_at _ _ _⟩
      generalize a'.eval = ρ at *
      simp [execOp, go_sem, ec0]
  case fin =>
    rintro r V2 ⟨d0, d1, d2⟩
    simp only [putC, Ck.out, d1, d2, Act.put, List.setIfInBounds_toArray, List.set_cons_succ, List.set_cons_zero]
    rw [d0]
    obtain ⟨u0, u1, u2, u3, u4, u5, u6⟩ := KBZ.out.sevenc
    clear d0 d1 d2 r V2 KMV KMZ KBV KBZ hV hZ V
    go_wp2_with fail
    exact bodyPost_ret (v := .tuple #[.agg #[.int .i64 la2, .int .i64 ne2, .slice b1 m1 d1, .slice b2 m2 d2, .int .i64 fi2, .slice b3 m3 d3, .slice b4 m4 d4], .int .i64 rc, .int .i64 0]) (by simp [results, Tryz.results65, go_sem, u0, u1, u2, u3, u4, u5, u6]) rfl ⟨_, _, _, _, HEQ.out, HTR.out, HBZ.out⟩

end Go.Proofs.YtnpaejknoipicafGreat

namespace Go.Proofs.YtnpaejknoipicafGreat
open Go.RowKit

set_option maxHeartbeats 16000000 in
set_option maxRecDepth 100000 in
theorem trkChangeD_any (t : Tr) (hv bv gv ov : Value) (w : World) (hr : TrIn (fun g => g < w.heap.size) w hv bv gv ov t) :
    Calls Tryz.prog 65 #[.agg #[.int .i64 t.last, .int .i64 t.next, hv, bv, .int .i64 t.first, gv, ov], .func (.func 68) #[] #[]] w fun e w' => ∃ hv' bv' gv' ov', e = .returned (.tuple #[.agg #[.int .i64 (drainA t).1.last, .int .i64 (drainA t).1.next, hv', bv', .int .i64 (drainA t).1.first, gv', ov'], .int .i64 (drainA t).2.1, .int .i64 (drainA t).2.2]) ∧ TrIn (fun g => w.heap.size ≤ g) w' hv' bv' gv' ov' (drainA t).1 ∧ Below w.heap.size w w' := by
  obtain ⟨ha, hc, ba', bc, ga, gc, oa, oc, eh, eb, eg, eo⟩ := hr.slices
  obtain ⟨RT, RC, RE, hRR⟩ : ∃ RT RC RE, (RT, RC, RE) = drainR t := ⟨_, _, _, rfl⟩
  obtain ⟨A, hA⟩ : ∃ A, A = drainA t := ⟨_, rfl⟩
  obtain ⟨CK, hCK⟩ : ∃ c, c = t.chk := ⟨_, rfl⟩
  have HA : Hid (A = if CK = 0 then (RT, RC, RE) else (Tr.zero, 0, CK)) := by show A = _; rw [hA, hCK, hRR]; rfl
  have HHOW : Hid (CK = 0 → ∀ W M, Below w.heap.size w W → w.heap.size + 2 ≤ W.heap.size → TkB (fun g => w.heap.size + 2 ≤ g) M W t (0 : Nat) → Calls Tryz.prog 68 #[.pointer (some ⟨M, 0, none⟩)] W fun e w' => e = .returned (.int .i64 RE) ∧ Hid (RE = 0 → TkB (fun g => w.heap.size + 2 ≤ g) M w' RT (RC : Nat)) ∧ Hid (Kept [M] W w')) := fun h W M hW hM hT => by
    refine (drainFn_any _ M t W hT (hCK ▸ h) (fun g hg => Nat.le_trans hM hg)).mono ?_
    rintro e w' ⟨rfl, a1, a2⟩
    rw [← hRR] at a1 ⊢
    exact ⟨rfl, a1, a2⟩
  have hbad : Hid (¬ RE = 0 → CK = 0 → RT = Tr.zero ∧ RC = 0) := fun h1 h2 => by
    have q := drainA_bad (t := t)
    rw [← hA, HA.out, if_pos h2] at q
    exact q h1
  rw [← hA]
  clear hA
  have HCHK : Hid (∀ U C, ClT w U C hv bv gv ov t → Calls Tryz.prog 29 #[.agg #[.int .i64 t.last, .int .i64 t.next, hv, bv, .int .i64 t.first, gv, ov]] U fun e w' => e = .returned (.int .i64 CK) ∧ Below U.heap.size U w') := fun U C hU => by
    rw [hCK]; exact trkCheck_any _ t hv bv gv ov U hU.2.2.2.2
  have HCL : Hid (CK = 0 → ∀ U C, ClT w U C hv bv gv ov t → Calls Tryz.prog 109 #[.agg #[.int .i64 t.last, .int .i64 t.next, hv, bv, .int .i64 t.first, gv, ov]] U fun e w' => ∃ a1 n1 c1 a2 n2 c2 a3 n3 c3 a4 n4 c4, e = .returned (.agg #[.int .i64 t.last, .int .i64 t.next, .slice a1 n1 c1, .slice a2 n2 c2, .int .i64 t.first, .slice a3 n3 c3, .slice a4 n4 c4]) ∧ Hid (TrIn (fun g => w.heap.size + 2 ≤ g) w' (.slice a1 n1 c1) (.slice a2 n2 c2) (.slice a3 n3 c3) (.slice a4 n4 c4) t) ∧ Below U.heap.size U w') := fun h U C hU => by
    refine (cloneTrack_any _ t hv bv gv ov U hU.2.2.2.2 (hCK ▸ h)).mono ?_
    rintro e w' ⟨x1, x2, x3, x4, rfl, q, b⟩
    obtain ⟨a1, c1, a2, c2, a3, c3, a4, c4, e1, e2, e3, e4⟩ := q.slices
    subst e1 e2 e3 e4
    exact ⟨_, _, _, _, _, _, _, _, _, _, _, _, rfl, q.mono fun g _ hg => Nat.le_trans hU.2.2.2.1 hg, b⟩
  obtain ⟨nh, hnh⟩ : ∃ n, n = t.h.length := ⟨_, rfl⟩
  obtain ⟨no, hno⟩ : ∃ n, n = t.o.length := ⟨_, rfl⟩
  obtain ⟨ng, hng⟩ : ∃ n, n = t.L.length := ⟨_, rfl⟩
  obtain ⟨nO, hnO⟩ : ∃ n, n = t.O.length := ⟨_, rfl⟩
  rw [← hnh] at eh
  rw [← hno] at eb
  rw [← hng] at eg
  rw [← hnO] at eo
  obtain ⟨last, hla⟩ : ∃ x, x = t.last := ⟨_, rfl⟩
  obtain ⟨next, hne⟩ : ∃ x, x = t.next := ⟨_, rfl⟩
  obtain ⟨first, hfi⟩ : ∃ x, x = t.first := ⟨_, rfl⟩
  have HTK : Hid (∀ W M a1 n1 c1 a2 n2 c2 a3 n3 c3 a4 n4 c4, Blk W M #[.int .i64 last, .int .i64 next, .slice a1 n1 c1, .slice a2 n2 c2, .int .i64 first, .slice a3 n3 c3, .slice a4 n4 c4, .int .i64 0] 167 → TrIn (fun g => w.heap.size + 2 ≤ g ∧ g ≠ M) W (.slice a1 n1 c1) (.slice a2 n2 c2) (.slice a3 n3 c3) (.slice a4 n4 c4) t → TkB (fun g => w.heap.size + 2 ≤ g) M W t (0 : Nat)) := fun W M a1 n1 c1 a2 n2 c2 a3 n3 c3 a4 n4 c4 h1 h3 => by
    rw [hla, hne, hfi] at h1
    exact ⟨_, _, _, _, h1, h3⟩
  rw [← hla, ← hne, ← hfi] at HCHK HCL ⊢
  have HI : Hid (ClT w ((w.alloc (.cells #[.int .i64 last, .int .i64 next, hv, bv, .int .i64 first, gv, ov] 61)).alloc (.cells #[.int .i64 0, .int .i64 0, .slice none 0 0, .slice none 0 0, .int .i64 0, .slice none 0 0, .slice none 0 0] 61)) #[.int .i64 last, .int .i64 next, hv, bv, .int .i64 first, gv, ov] hv bv gv ov t) := by
    have b1 : Below w.heap.size w (w.alloc (.cells #[.int .i64 last, .int .i64 next, hv, bv, .int .i64 first, gv, ov] 61)) := (Below.refl _ _).alloc (Nat.le_refl _) _
    have k1 := Blk.new w #[.int .i64 last, .int .i64 next, hv, bv, .int .i64 first, gv, ov] 61
    have k2 := Blk.new (w.alloc (.cells #[.int .i64 last, .int .i64 next, hv, bv, .int .i64 first, gv, ov] 61)) #[.int .i64 0, .int .i64 0, .slice none 0 0, .slice none 0 0, .int .i64 0, .slice none 0 0, .slice none 0 0] 61
    have b2 : Below w.heap.size w ((w.alloc (.cells #[.int .i64 last, .int .i64 next, hv, bv, .int .i64 first, gv, ov] 61)).alloc (.cells #[.int .i64 0, .int .i64 0, .slice none 0 0, .slice none 0 0, .int .i64 0, .slice none 0 0, .slice none 0 0] 61)) := b1.alloc (by simp) _
    exact ⟨b2, k1.below ((Below.refl _ _).alloc (Nat.le_refl _) _) k1.lt, by simpa using k2, by simp, hr.below b2⟩
  clear hla hne hfi hr hnh hno hng hnO hRR hCK
  subst eh eb eg eo
  go_enter Tryz.func65, Tryz.ntmps65
  obtain ⟨W, hW⟩ : ∃ W, W = (w.alloc (.cells #[.int .i64 last, .int .i64 next, .slice ha nh hc, .slice ba' no bc, .int .i64 first, .slice ga ng gc, .slice oa nO oc] 61)).alloc (.cells #[.int .i64 0, .int .i64 0, .slice none 0 0, .slice none 0 0, .int .i64 0, .slice none 0 0, .slice none 0 0] 61) := ⟨_, rfl⟩
  rw [← hW] at HI
  go_wp2_with fail
  rw [← hW]
  clear hW
  refine (HCHK.out W _ HI.out).mono ?_
  rintro e w1 ⟨rfl, b1⟩
  have HI1 : Hid (ClT w w1 #[.int .i64 last, .int .i64 next, .slice ha nh hc, .slice ba' no bc, .int .i64 first, .slice ga ng gc, .slice oa nO oc] (.slice ha nh hc) (.slice ba' no bc) (.slice ga ng gc) (.slice oa nO oc) t) := HI.out.go b1
  clear b1 HI HCHK W
  obtain ⟨y0, y1, y2, y3, y4, y5, y6⟩ := HI1.out.2.1.sevenc
  by_cases h1 : CK = 0
  case neg =>
    have KB : Hid (Blk w1 (w.heap.size + 1) #[.int .i64 0, .int .i64 0, .slice none 0 0, .slice none 0 0, .int .i64 0, .slice none 0 0, .slice none 0 0] 61) := HI1.out.2.2.1
    have BW : Hid (Below w.heap.size w w1) := HI1.out.1
    have HAe : Hid (A = (Tr.zero, 0, CK)) := by show A = _; rw [HA.out, if_neg h1]
    obtain ⟨z0, z1, z2, z3, z4, z5, z6⟩ := KB.out.sevenc
    have g0 := KB.out.free 0
    have g1 := KB.out.free 1
    have g2 := KB.out.free 2
    have g3 := KB.out.free 3
    have g4 := KB.out.free 4
    have g5 := KB.out.free 5
    have g6 := KB.out.free 6
    clear HHOW hbad HCL HTK HA HI1 y0 y1 y2 y3 y4 y5 y6
    go_wp2_with fail
    clear z0 z1 z2 z3 z4 z5 z6 g0 g1 g2 g3 g4 g5 g6
    have KZ := zero_out KB.out
    have BZ := seven_below BW.out (Nat.le_succ w.heap.size) (.int .i64 0) (.int .i64 0) (.slice none 0 0) (.slice none 0 0) (.int .i64 0) (.slice none 0 0) (.slice none 0 0)
    clear KB BW
    obtain ⟨Z, hZ⟩ : ∃ Z, Z = (((((((w1.setCell ⟨w.heap.size + 1, 0, none⟩ (.int .i64 0)).setCell ⟨w.heap.size + 1, 1, none⟩ (.int .i64 0)).setCell ⟨w.heap.size + 1, 2, none⟩ (.slice none 0 0)).setCell ⟨w.heap.size + 1, 3, none⟩ (.slice none 0 0)).setCell ⟨w.heap.size + 1, 4, none⟩ (.int .i64 0)).setCell ⟨w.heap.size + 1, 5, none⟩ (.slice none 0 0)).setCell ⟨w.heap.size + 1, 6, none⟩ (.slice none 0 0)) := ⟨_, rfl⟩
    rw [← hZ] at KZ BZ ⊢
    clear hZ
    obtain ⟨q0, q1, q2, q3, q4, q5, q6⟩ := KZ.sevenc
    exact bodyPost_ret (v := .tuple #[.agg #[.int .i64 0, .int .i64 0, .slice none 0 0, .slice none 0 0, .int .i64 0, .slice none 0 0, .slice none 0 0], .int .i64 0, .int .i64 CK]) (by simp [results, Tryz.results65, go_sem, q0, q1, q2, q3, q4, q5, q6]) rfl ⟨_, _, _, _, by rw [HAe.out]; rfl, by rw [HAe.out]; exact TrIn.zero _ _, BZ⟩
  subst h1
  have HA2 : Hid (A = (RT, RC, RE)) := by show A = _; rw [HA.out, if_pos rfl]
  clear HA
  go_wp2_with fail
  refine (HCL.out (by first | rfl | trivial) w1 _ HI1.out).mono ?_
  rintro e w2 ⟨a1, n1, c1, a2, n2, c2, a3, n3, c3, a4, n4, c4, rfl, HR2, b1⟩
  have HI2 : Hid (ClT w w2 #[.int .i64 last, .int .i64 next, .slice ha nh hc, .slice ba' no bc, .int .i64 first, .slice ga ng gc, .slice oa nO oc] (.slice ha nh hc) (.slice ba' no bc) (.slice ga ng gc) (.slice oa nO oc) t) := HI1.out.go b1
  clear b1 HI1 HCL y0 y1 y2 y3 y4 y5 y6
  obtain ⟨W3, hW3⟩ : ∃ W, W = w2.alloc (.cells #[.int .i64 last, .int .i64 next, .slice a1 n1 c1, .slice a2 n2 c2, .int .i64 first, .slice a3 n3 c3, .slice a4 n4 c4, .int .i64 0] 167) := ⟨_, rfl⟩
  have hsz2 : w.heap.size + 2 ≤ w2.heap.size := HI2.out.2.2.2.1
  have HTK3 : Hid (TkB (fun g => w.heap.size + 2 ≤ g) w2.heap.size W3 t (0 : Nat)) := HTK.out W3 w2.heap.size a1 n1 c1 a2 n2 c2 a3 n3 c3 a4 n4 c4 (Blk.newE hW3) (by rw [hW3]; exact HR2.out.to (SameOn.alloc _) (fun g hg h => ⟨by omega, by omega⟩))
  have KB3 : Hid (Blk W3 (w.heap.size + 1) #[.int .i64 0, .int .i64 0, .slice none 0 0, .slice none 0 0, .int .i64 0, .slice none 0 0, .slice none 0 0] 61) := by rw [hW3]; exact HI2.out.2.2.1.below ((Below.refl _ _).alloc (Nat.le_refl _) _) HI2.out.2.2.1.lt
  have BW3 : Hid (Below w.heap.size w W3) := by rw [hW3]; exact HI2.out.1.alloc HI2.out.1.size _
  have hsz3 : w.heap.size + 2 ≤ W3.heap.size := by rw [hW3]; simp; omega
  clear HTK HR2 HI2
  go_wp2_with fail
  rw [← hW3]
  clear hW3
  refine (HHOW.out (by first | rfl | trivial) W3 w2.heap.size BW3.out hsz3 HTK3.out).mono ?_
  rintro e w4 ⟨rfl, HT4, HK4⟩
  have KB : Hid (Blk w4 (w.heap.size + 1) #[.int .i64 0, .int .i64 0, .slice none 0 0, .slice none 0 0, .int .i64 0, .slice none 0 0, .slice none 0 0] 61) := KB3.out.kept HK4.out (by simp; omega)
  have BW : Hid (Below w.heap.size w w4) := BW3.out.trans (HK4.out.toBelow BW3.out.size (fun k hk => by simp at hk; omega))
  clear HHOW HTK3 KB3 BW3 HK4
  by_cases h1 : RE = 0
  case neg =>
    obtain ⟨q1, q2⟩ := hbad.out h1 (by first | rfl | trivial)
    have HAe : Hid (A = (Tr.zero, 0, RE)) := by show A = _; rw [HA2.out, q1, q2]
    clear q1 q2 HA2 hbad HT4
    obtain ⟨z0, z1, z2, z3, z4, z5, z6⟩ := KB.out.sevenc
    have g0 := KB.out.free 0
    have g1 := KB.out.free 1
    have g2 := KB.out.free 2
    have g3 := KB.out.free 3
    have g4 := KB.out.free 4
    have g5 := KB.out.free 5
    have g6 := KB.out.free 6
    go_wp2_with fail
    clear z0 z1 z2 z3 z4 z5 z6 g0 g1 g2 g3 g4 g5 g6
    have KZ := zero_out KB.out
    have BZ := seven_below BW.out (Nat.le_succ w.heap.size) (.int .i64 0) (.int .i64 0) (.slice none 0 0) (.slice none 0 0) (.int .i64 0) (.slice none 0 0) (.slice none 0 0)
    clear KB BW
    obtain ⟨Z, hZ⟩ : ∃ Z, Z = (((((((w4.setCell ⟨w.heap.size + 1, 0, none⟩ (.int .i64 0)).setCell ⟨w.heap.size + 1, 1, none⟩ (.int .i64 0)).setCell ⟨w.heap.size + 1, 2, none⟩ (.slice none 0 0)).setCell ⟨w.heap.size + 1, 3, none⟩ (.slice none 0 0)).setCell ⟨w.heap.size + 1, 4, none⟩ (.int .i64 0)).setCell ⟨w.heap.size + 1, 5, none⟩ (.slice none 0 0)).setCell ⟨w.heap.size + 1, 6, none⟩ (.slice none 0 0)) := ⟨_, rfl⟩
    rw [← hZ] at KZ BZ ⊢
    clear hZ
    obtain ⟨q0, q1, q2, q3, q4, q5, q6⟩ := KZ.sevenc
    exact bodyPost_ret (v := .tuple #[.agg #[.int .i64 0, .int .i64 0, .slice none 0 0, .slice none 0 0, .int .i64 0, .slice none 0 0, .slice none 0 0], .int .i64 0, .int .i64 RE]) (by simp [results, Tryz.results65, go_sem, q0, q1, q2, q3, q4, q5, q6]) rfl ⟨_, _, _, _, by rw [HAe.out]; rfl, by rw [HAe.out]; exact TrIn.zero _ _, BZ⟩
  clear hbad
  obtain ⟨v1, v2, v3, v4, K8, TR⟩ := HT4.out h1
  subst h1
  clear HT4
  obtain ⟨b1, d1, b2, d2, b3, d3, b4, d4, e1, e2, e3, e4⟩ := TR.slices
  obtain ⟨m1, hm1⟩ : ∃ n, n = RT.h.length := ⟨_, rfl⟩
  obtain ⟨m2, hm2⟩ : ∃ n, n = RT.o.length := ⟨_, rfl⟩
  obtain ⟨m3, hm3⟩ : ∃ n, n = RT.L.length := ⟨_, rfl⟩
  obtain ⟨m4, hm4⟩ : ∃ n, n = RT.O.length := ⟨_, rfl⟩
  rw [← hm1] at e1
  rw [← hm2] at e2
  rw [← hm3] at e3
  rw [← hm4] at e4
  subst e1 e2 e3 e4
  obtain ⟨la2, hl2⟩ : ∃ x, x = RT.last := ⟨_, rfl⟩
  obtain ⟨ne2, hn2⟩ : ∃ x, x = RT.next := ⟨_, rfl⟩
  obtain ⟨fi2, hf2⟩ : ∃ x, x = RT.first := ⟨_, rfl⟩
  obtain ⟨rc, hrc⟩ : ∃ x, x = (RC : Int) := ⟨_, rfl⟩
  rw [← hl2, ← hn2, ← hf2, ← hrc] at K8
  obtain ⟨V, hV⟩ : ∃ V, V = { w4 with drawn := w4.drawn + 1 } := ⟨_, rfl⟩
  obtain ⟨Z, hZ⟩ : ∃ Z, Z = (((((((V.setCell ⟨w.heap.size + 1, 0, none⟩ (.int .i64 la2)).setCell ⟨w.heap.size + 1, 1, none⟩ (.int .i64 ne2)).setCell ⟨w.heap.size + 1, 2, none⟩ (.slice b1 m1 d1)).setCell ⟨w.heap.size + 1, 3, none⟩ (.slice b2 m2 d2)).setCell ⟨w.heap.size + 1, 4, none⟩ (.int .i64 fi2)).setCell ⟨w.heap.size + 1, 5, none⟩ (.slice b3 m3 d3)).setCell ⟨w.heap.size + 1, 6, none⟩ (.slice b4 m4 d4)) := ⟨_, rfl⟩
  have hne : w2.heap.size ≠ w.heap.size + 1 := by omega
  have KMV : Hid (Blk V w2.heap.size #[.int .i64 la2, .int .i64 ne2, .slice b1 m1 d1, .slice b2 m2 d2, .int .i64 fi2, .slice b3 m3 d3, .slice b4 m4 d4, .int .i64 rc] 167) := by rw [hV]; exact K8.drew
  have KBV : Hid (Blk V (w.heap.size + 1) #[.int .i64 0, .int .i64 0, .slice none 0 0, .slice none 0 0, .int .i64 0, .slice none 0 0, .slice none 0 0] 61) := by rw [hV]; exact KB.out.drew
  have hsame : SameOn (fun g => g ≠ w.heap.size + 1) V Z := by rw [hZ]; exact seven_same (by simp) _ _ _ _ _ _ _
  have KMZ : Hid (Blk Z w2.heap.size #[.int .i64 la2, .int .i64 ne2, .slice b1 m1 d1, .slice b2 m2 d2, .int .i64 fi2, .slice b3 m3 d3, .slice b4 m4 d4, .int .i64 rc] 167) := (hsame.2 _ KMV.out.lt hne).trans KMV.out
  have KBZ : Hid (Blk Z (w.heap.size + 1) #[.int .i64 la2, .int .i64 ne2, .slice b1 m1 d1, .slice b2 m2 d2, .int .i64 fi2, .slice b3 m3 d3, .slice b4 m4 d4] 61) := by rw [hZ]; exact seven_out KBV.out _ _ _ _ _ _ _
  have HBZ : Hid (Below w.heap.size w Z) := by rw [hZ]; exact seven_below (by rw [hV]; exact BW.out.drew) (Nat.le_succ _) _ _ _ _ _ _ _
  have HEQ : Hid (Ending.returned (Value.tuple #[.agg #[.int .i64 la2, .int .i64 ne2, .slice b1 m1 d1, .slice b2 m2 d2, .int .i64 fi2, .slice b3 m3 d3, .slice b4 m4 d4], .int .i64 rc, .int .i64 0]) = Ending.returned (Value.tuple #[.agg #[.int .i64 A.1.last, .int .i64 A.1.next, .slice b1 m1 d1, .slice b2 m2 d2, .int .i64 A.1.first, .slice b3 m3 d3, .slice b4 m4 d4], .int .i64 A.2.1, .int .i64 A.2.2])) := by rw [hl2, hn2, hf2, hrc]; show _ = _; rw [HA2.out]
  have HTR : Hid (TrIn (fun g => w.heap.size ≤ g) Z (.slice b1 m1 d1) (.slice b2 m2 d2) (.slice b3 m3 d3) (.slice b4 m4 d4) A.1) := by
    show TrIn _ _ _ _ _ _ _
    rw [HA2.out]
    have q : TrIn (fun g => w.heap.size + 2 ≤ g ∧ g ≠ w2.heap.size) V (.slice b1 m1 d1) (.slice b2 m2 d2) (.slice b3 m3 d3) (.slice b4 m4 d4) RT := by rw [hV]; exact TR.to ⟨Nat.le_refl _, fun g _ _ => rfl⟩ (fun g _ h => h)
    exact q.to (hsame.mono fun g hg => by have := hg.1; omega) (fun g _ hg => by have := hg.1; omega)
  clear HA2 hl2 hn2 hf2 hrc hm1 hm2 hm3 hm4 K8 TR hsame
  go_wp2_with fail
  refine region_chainG (by kernel_rfl) (by kernel_rfl) [.quiet (.pointer (some ⟨w2.heap.size, 0, none⟩)) 3, .quiet (.agg #[.int .i64 la2, .int .i64 ne2, .slice b1 m1 d1, .slice b2 m2 d2, .int .i64 fi2, .slice b3 m3 d3, .slice b4 m4 d4]) 3, .quiet (.pointer (some ⟨w2.heap.size, 7, none⟩)) 3, .quiet (.int .i64 rc) 3, .step 0, .step 1, .step 2] [4, 5, 6] (by kernel_rfl)
    (fun s r w' => match s with
      | 0 => w' = V
      | 1 => w' = Z
      | 2 => w' = Z ∧ r 1 = .int .i64 rc
      | _ => w' = Z ∧ r 1 = .int .i64 rc ∧ r 2 = .int .i64 0
      ) hV.symm ?step ?fin
  case step =>
    intro i o ho a' w' s r hI hfree hvals
    have kx : Blk w' w2.heap.size #[.int .i64 la2, .int .i64 ne2, .slice b1 m1 d1, .slice b2 m2 d2, .int .i64 fi2, .slice b3 m3 d3, .slice b4 m4 d4, .int .i64 rc] 167 := by
      match s, hI with
      | 0, hI => rw [show w' = V from hI]; exact KMV.out
      | 1, hI => rw [show w' = Z from hI]; exact KMZ.out
      | 2, hI => rw [hI.1]; exact KMZ.out
      | n + 3, hI => rw [hI.1]; exact KMZ.out
    obtain ⟨a0, a1, a2, a3, a4, a5, a6, a7⟩ := kx.eight
    match i, ho with
    | 0, ho =>
      simp at ho; subst ho
      have e8 : a'.eval (.tmp 8) = .pointer (some ⟨w2.heap.size, 0, none⟩) := (hfree 8 (by kernel_rfl)).trans rfl
      show s ≤ 3 → _
      intro hs
      refine .inl ⟨rfl, ?_⟩
      generalize a'.eval = ρ at *
      simp [execOp, go_sem, e8]
    | 1, ho =>
      simp at ho; subst ho
      have e25 : a'.eval (.tmp 25) = .pointer (some ⟨w2.heap.size, 0, none⟩) := hvals 0 _ _ (by kernel_rfl) rfl rfl
      show s ≤ 3 → _
      intro hs
      refine .inl ⟨rfl, ?_⟩
      generalize a'.eval = ρ at *
      simp [execOp, go_sem, e25, a0, a1, a2, a3, a4, a5, a6]
    | 2, ho =>
      simp at ho; subst ho
      have e8 : a'.eval (.tmp 8) = .pointer (some ⟨w2.heap.size, 0, none⟩) := (hfree 8 (by kernel_rfl)).trans rfl
      show s ≤ 3 → _
      intro hs
      refine .inl ⟨rfl, ?_⟩
      generalize a'.eval = ρ at *
      simp [execOp, go_sem, e8]
    | 3, ho =>
      simp at ho; subst ho
      have e27 : a'.eval (.tmp 27) = .pointer (some ⟨w2.heap.size, 7, none⟩) := hvals 2 _ _ (by kernel_rfl) rfl rfl
      show s ≤ 3 → _
      intro hs
      refine .inl ⟨rfl, ?_⟩
      generalize a'.eval = ρ at *
      simp [execOp, go_sem, e27, a7]
    | 4, ho =>
      simp at ho; subst ho
      have e4 : a'.eval (.tmp 4) = .pointer (some ⟨w.heap.size + 1, 0, none⟩) := (hfree 4 (by kernel_rfl)).trans rfl
      have e26 : a'.eval (.tmp 26) = .agg #[.int .i64 la2, .int .i64 ne2, .slice b1 m1 d1, .slice b2 m2 d2, .int .i64 fi2, .slice b3 m3 d3, .slice b4 m4 d4] := hvals 1 _ _ (by kernel_rfl) rfl rfl
      show s = 0 → _ ∧ Oper.wp _ _ _ _ _ _
      intro hs
      subst hs
      refine ⟨rfl, ?_⟩
      have hw : w' = V := hI
      obtain ⟨t0, t1, t2, t3, t4, t5, t6⟩ := KBV.out.sevenc
      have fr := KBV.out.free
      refine oper_wp_skip (w' := Z) ?_ ⟨_, rfl, rfl⟩
      generalize a'.eval = ρ at *
      rw [hw, hZ]
      simp [execOp, go_sem, e4, e26, t0, t1, t2, t3, t4, t5, t6, fr]
    | 5, ho =>
      simp at ho; subst ho
      have e28 : a'.eval (.tmp 28) = .int .i64 rc := hvals 3 _ _ (by kernel_rfl) rfl rfl
      show s = 1 → _ ∧ Oper.wp _ _ _ _ _ _
      intro hs
      subst hs
      refine ⟨rfl, ?_⟩
      refine oper_wp_ok (v := .int .i64 rc) (w' := w') ?_ ⟨_, rfl, hI, updR_at _ _ _⟩
      generalize a'.eval = ρ at *
      simp [execOp, go_sem, e28]
    | 6, ho =>
      simp at ho; subst ho
      have ec0 : a'.eval (.const (.int .i64 0)) = .int .i64 0 := rfl
      show s = 2 → _ ∧ Oper.wp _ _ _ _ _ _
      intro hs
      subst hs
      refine ⟨rfl, ?_⟩
      obtain ⟨c0, c1⟩ := hI
      refine oper_wp_ok (v := .int .i64 0) (w' := w') ?_ ⟨_, rfl, c0, by rw [updR_ne (by omega)]; exact c1, updR_at _ _ _⟩
      generalize a'.eval = ρ at *
      simp [execOp, go_sem, ec0]
  case fin =>
    rintro r V2 ⟨d0, d1, d2⟩
    simp only [putC, Ck.out, d1, d2, Act.put, List.setIfInBounds_toArray, List.set_cons_succ, List.set_cons_zero]
    rw [d0]
    obtain ⟨u0, u1, u2, u3, u4, u5, u6⟩ := KBZ.out.sevenc
    clear d0 d1 d2 r V2 KMV KMZ KBV KBZ hV hZ V
    go_wp2_with fail
    exact bodyPost_ret (v := .tuple #[.agg #[.int .i64 la2, .int .i64 ne2, .slice b1 m1 d1, .slice b2 m2 d2, .int .i64 fi2, .slice b3 m3 d3, .slice b4 m4 d4], .int .i64 rc, .int .i64 0]) (by simp [results, Tryz.results65, go_sem, u0, u1, u2, u3, u4, u5, u6]) rfl ⟨_, _, _, _, HEQ.out, HTR.out, HBZ.out⟩

end Go.Proofs.YtnpaejknoipicafGreat

namespace Go.Proofs.YtnpaejknoipicafGreat
open Go.RowKit

set_option maxHeartbeats 8000000 in
set_option maxRecDepth 100000 in
theorem trkFeed_any (S : Nat → Prop) (t : Tr) (s : List UInt8) (hv bv gv ov : Value) (w : World) (hr : TrIn S w hv bv gv ov t) :
    Calls Tryz.prog 23 #[.agg #[.int .i64 t.last, .int .i64 t.next, hv, bv, .int .i64 t.first, gv, ov], .string (ba s)] w fun e w' => ∃ hv' bv' gv' ov', e = .returned (.tuple #[.agg #[.int .i64 (feedA t s).1.last, .int .i64 (feedA t s).1.next, hv', bv', .int .i64 (feedA t s).1.first, gv', ov'], .int .i64 (feedA t s).2.1, .int .i64 (feedA t s).2.2]) ∧ TrIn (fun g => w.heap.size ≤ g) w' hv' bv' gv' ov' (feedA t s).1 ∧ Below w.heap.size w w' := by
  obtain ⟨ha, hc, ba', bc, ga, gc, oa, oc, eh, eb, eg, eo⟩ := hr.slices
  obtain ⟨A, hA⟩ : ∃ A, A = feedA t s := ⟨_, rfl⟩
  obtain ⟨N, hN⟩ : ∃ n, n = w.heap.size + 1 + 1 + 1 := ⟨_, rfl⟩
  have HC : Hid (∀ U, Below w.heap.size w U → N ≤ U.heap.size → Blk U (w.heap.size + 1) #[.string (ba s)] 9 → Calls Tryz.prog 65 #[.agg #[.int .i64 t.last, .int .i64 t.next, hv, bv, .int .i64 t.first, gv, ov], .func (.func 66) #[] #[.pointer (some ⟨w.heap.size + 1, 0, none⟩)]] U fun e w' => ∃ la2 ne2 b1 m1 d1 b2 m2 d2 fi2 b3 m3 d3 b4 m4 d4 rc re, e = .returned (.tuple #[.agg #[.int .i64 la2, .int .i64 ne2, .slice b1 m1 d1, .slice b2 m2 d2, .int .i64 fi2, .slice b3 m3 d3, .slice b4 m4 d4], .int .i64 rc, .int .i64 re]) ∧ Hid (la2 = A.1.last ∧ ne2 = A.1.next ∧ fi2 = A.1.first ∧ rc = (A.2.1 : Int) ∧ re = A.2.2 ∧ TrIn (fun g => N ≤ g) w' (.slice b1 m1 d1) (.slice b2 m2 d2) (.slice b3 m3 d3) (.slice b4 m4 d4) A.1) ∧ Below U.heap.size U w') := fun U hU hn hs => by
    refine (trkChangeF_any t s _ hv bv gv ov U ((hr.below hU).to (S' := fun g => g < U.heap.size) (SameOn.refl _ _) (fun g hg _ => hg)) hs).mono ?_
    rintro e w' ⟨x1, x2, x3, x4, rfl, q, b⟩
    rw [← hA] at q ⊢
    obtain ⟨a1, c1, a2, c2, a3, c3, a4, c4, e1, e2, e3, e4⟩ := q.slices
    subst e1 e2 e3 e4
    exact ⟨_, _, _, _, _, _, _, _, _, _, _, _, _, _, _, _, _, rfl, ⟨rfl, rfl, rfl, rfl, rfl, q.mono fun g _ hg => Nat.le_trans hn hg⟩, b⟩
  rw [← hA]
  obtain ⟨nh, hnh⟩ : ∃ n, n = t.h.length := ⟨_, rfl⟩
  obtain ⟨no, hno⟩ : ∃ n, n = t.o.length := ⟨_, rfl⟩
  obtain ⟨ng, hng⟩ : ∃ n, n = t.L.length := ⟨_, rfl⟩
  obtain ⟨nO, hnO⟩ : ∃ n, n = t.O.length := ⟨_, rfl⟩
  rw [← hnh] at eh
  rw [← hno] at eb
  rw [← hng] at eg
  rw [← hnO] at eo
  obtain ⟨last, hla⟩ : ∃ x, x = t.last := ⟨_, rfl⟩
  obtain ⟨next, hne⟩ : ∃ x, x = t.next := ⟨_, rfl⟩
  obtain ⟨first, hfi⟩ : ∃ x, x = t.first := ⟨_, rfl⟩
  rw [← hla, ← hne, ← hfi] at HC ⊢
  clear hla hne hfi hr hnh hno hng hnO hA
  subst eh eb eg eo
  obtain ⟨W, hW⟩ : ∃ W, W = ((w.alloc (.cells #[.int .i64 last, .int .i64 next, .slice ha nh hc, .slice ba' no bc, .int .i64 first, .slice ga ng gc, .slice oa nO oc] 61)).alloc (.cells #[.string (ba s)] 9)).alloc (.cells #[.int .i64 0, .int .i64 0, .slice none 0 0, .slice none 0 0, .int .i64 0, .slice none 0 0, .slice none 0 0] 61) := ⟨_, rfl⟩
  have BW : Hid (Below w.heap.size w W) := by
    rw [hW]; exact (((Below.refl _ _).alloc (Nat.le_refl _) _).alloc (by simp) _).alloc (by simp; omega) _
  have KB : Hid (Blk W (w.heap.size + 1 + 1) #[.int .i64 0, .int .i64 0, .slice none 0 0, .slice none 0 0, .int .i64 0, .slice none 0 0, .slice none 0 0] 61) := by
    have := Blk.new ((w.alloc (.cells #[.int .i64 last, .int .i64 next, .slice ha nh hc, .slice ba' no bc, .int .i64 first, .slice ga ng gc, .slice oa nO oc] 61)).alloc (.cells #[.string (ba s)] 9)) #[.int .i64 0, .int .i64 0, .slice none 0 0, .slice none 0 0, .int .i64 0, .slice none 0 0, .slice none 0 0] 61
    rw [hW]; simpa [Hid] using this
  have KS : Hid (Blk W (w.heap.size + 1) #[.string (ba s)] 9) := by
    have k := Blk.new (w.alloc (.cells #[.int .i64 last, .int .i64 next, .slice ha nh hc, .slice ba' no bc, .int .i64 first, .slice ga ng gc, .slice oa nO oc] 61)) #[.string (ba s)] 9
    have k2 := k.below ((Below.refl _ _).alloc (Nat.le_refl _) (.cells #[.int .i64 0, .int .i64 0, .slice none 0 0, .slice none 0 0, .int .i64 0, .slice none 0 0, .slice none 0 0] 61)) k.lt
    rw [hW]; simpa [Hid] using k2
  have hsz : N ≤ W.heap.size := by rw [hW, hN]; simp
  go_enter Tryz.func23, Tryz.ntmps23
  go_wp2_with fail
  rw [← hW]
  clear hW
  refine (HC.out W BW.out hsz KS.out).mono ?_
  rintro e w1 ⟨la2, ne2, b1, m1, d1, b2, m2, d2, fi2, b3, m3, d3, b4, m4, d4, rc, re, rfl, HR, hb⟩
  have KB1 : Hid (Blk w1 (w.heap.size + 1 + 1) #[.int .i64 0, .int .i64 0, .slice none 0 0, .slice none 0 0, .int .i64 0, .slice none 0 0, .slice none 0 0] 61) := KB.out.below hb KB.out.lt
  have BW1 : Hid (Below w.heap.size w w1) := BW.out.trans (hb.mono BW.out.size)
  clear hb KB BW HC hsz KS
  obtain ⟨z0, z1, z2, z3, z4, z5, z6⟩ := KB1.out.sevenc
  have g0 := KB1.out.free 0
  have g1 := KB1.out.free 1
  have g2 := KB1.out.free 2
  have g3 := KB1.out.free 3
  have g4 := KB1.out.free 4
  have g5 := KB1.out.free 5
  have g6 := KB1.out.free 6
  go_wp2_with fail
  clear z0 z1 z2 z3 z4 z5 z6 g0 g1 g2 g3 g4 g5 g6
  obtain ⟨Z, hZ⟩ : ∃ Z, Z = (((((((w1.setCell ⟨w.heap.size + 1 + 1, 0, none⟩ (.int .i64 la2)).setCell ⟨w.heap.size + 1 + 1, 1, none⟩ (.int .i64 ne2)).setCell ⟨w.heap.size + 1 + 1, 2, none⟩ (.slice b1 m1 d1)).setCell ⟨w.heap.size + 1 + 1, 3, none⟩ (.slice b2 m2 d2)).setCell ⟨w.heap.size + 1 + 1, 4, none⟩ (.int .i64 fi2)).setCell ⟨w.heap.size + 1 + 1, 5, none⟩ (.slice b3 m3 d3)).setCell ⟨w.heap.size + 1 + 1, 6, none⟩ (.slice b4 m4 d4)) := ⟨_, rfl⟩
  have KZ : Hid (Blk Z (w.heap.size + 1 + 1) #[.int .i64 la2, .int .i64 ne2, .slice b1 m1 d1, .slice b2 m2 d2, .int .i64 fi2, .slice b3 m3 d3, .slice b4 m4 d4] 61) := by rw [hZ]; exact seven_out KB1.out _ _ _ _ _ _ _
  have BZ : Hid (Below w.heap.size w Z) := by rw [hZ]; exact seven_below BW1.out (by omega) _ _ _ _ _ _ _
  obtain ⟨h1, h2, h3, h4, h5, hT⟩ := HR.out
  have hTZ : TrIn (fun g => w.heap.size ≤ g) Z (.slice b1 m1 d1) (.slice b2 m2 d2) (.slice b3 m3 d3) (.slice b4 m4 d4) A.1 := by
    rw [hZ]; exact hT.to (seven_same (by omega) _ _ _ _ _ _ _) (fun g _ hg => by omega)
  rw [← hZ]
  clear hZ KB1 BW1 HR hT hN
  obtain ⟨q0, q1, q2, q3, q4, q5, q6⟩ := KZ.out.sevenc
  rw [← h1, ← h2, ← h3, ← h4, ← h5]
  clear h1 h2 h3 h4 h5
  exact bodyPost_ret (v := .tuple #[.agg #[.int .i64 la2, .int .i64 ne2, .slice b1 m1 d1, .slice b2 m2 d2, .int .i64 fi2, .slice b3 m3 d3, .slice b4 m4 d4], .int .i64 rc, .int .i64 re]) (by simp [results, Tryz.results23, go_sem, q0, q1, q2, q3, q4, q5, q6]) rfl ⟨_, _, _, _, rfl, hTZ, BZ.out⟩

set_option maxHeartbeats 8000000 in
set_option maxRecDepth 100000 in
theorem trkDrain_any (S : Nat → Prop) (t : Tr) (hv bv gv ov : Value) (w : World) (hr : TrIn S w hv bv gv ov t) :
    Calls Tryz.prog 24 #[.agg #[.int .i64 t.last, .int .i64 t.next, hv, bv, .int .i64 t.first, gv, ov]] w fun e w' => ∃ hv' bv' gv' ov', e = .returned (.tuple #[.agg #[.int .i64 (drainA t).1.last, .int .i64 (drainA t).1.next, hv', bv', .int .i64 (drainA t).1.first, gv', ov'], .int .i64 (drainA t).2.1, .int .i64 (drainA t).2.2]) ∧ TrIn (fun g => w.heap.size ≤ g) w' hv' bv' gv' ov' (drainA t).1 ∧ Below w.heap.size w w' := by
  obtain ⟨ha, hc, ba', bc, ga, gc, oa, oc, eh, eb, eg, eo⟩ := hr.slices
  obtain ⟨A, hA⟩ : ∃ A, A = drainA t := ⟨_, rfl⟩
  obtain ⟨N, hN⟩ : ∃ n, n = w.heap.size + 1 + 1 := ⟨_, rfl⟩
  have HC : Hid (∀ U, Below w.heap.size w U → N ≤ U.heap.size → Calls Tryz.prog 65 #[.agg #[.int .i64 t.last, .int .i64 t.next, hv, bv, .int .i64 t.first, gv, ov], .func (.func 68) #[] #[]] U fun e w' => ∃ la2 ne2 b1 m1 d1 b2 m2 d2 fi2 b3 m3 d3 b4 m4 d4 rc re, e = .returned (.tuple #[.agg #[.int .i64 la2, .int .i64 ne2, .slice b1 m1 d1, .slice b2 m2 d2, .int .i64 fi2, .slice b3 m3 d3, .slice b4 m4 d4], .int .i64 rc, .int .i64 re]) ∧ Hid (la2 = A.1.last ∧ ne2 = A.1.next ∧ fi2 = A.1.first ∧ rc = (A.2.1 : Int) ∧ re = A.2.2 ∧ TrIn (fun g => N ≤ g) w' (.slice b1 m1 d1) (.slice b2 m2 d2) (.slice b3 m3 d3) (.slice b4 m4 d4) A.1) ∧ Below U.heap.size U w') := fun U hU hn => by
    refine (trkChangeD_any t hv bv gv ov U ((hr.below hU).to (S' := fun g => g < U.heap.size) (SameOn.refl _ _) (fun g hg _ => hg))).mono ?_
    rintro e w' ⟨x1, x2, x3, x4, rfl, q, b⟩
    rw [← hA] at q ⊢
    obtain ⟨a1, c1, a2, c2, a3, c3, a4, c4, e1, e2, e3, e4⟩ := q.slices
    subst e1 e2 e3 e4
    exact ⟨_, _, _, _, _, _, _, _, _, _, _, _, _, _, _, _, _, rfl, ⟨rfl, rfl, rfl, rfl, rfl, q.mono fun g _ hg => Nat.le_trans hn hg⟩, b⟩
  rw [← hA]
  obtain ⟨nh, hnh⟩ : ∃ n, n = t.h.length := ⟨_, rfl⟩
  obtain ⟨no, hno⟩ : ∃ n, n = t.o.length := ⟨_, rfl⟩
  obtain ⟨ng, hng⟩ : ∃ n, n = t.L.length := ⟨_, rfl⟩
  obtain ⟨nO, hnO⟩ : ∃ n, n = t.O.length := ⟨_, rfl⟩
  rw [← hnh] at eh
  rw [← hno] at eb
  rw [← hng] at eg
  rw [← hnO] at eo
  obtain ⟨last, hla⟩ : ∃ x, x = t.last := ⟨_, rfl⟩
  obtain ⟨next, hne⟩ : ∃ x, x = t.next := ⟨_, rfl⟩
  obtain ⟨first, hfi⟩ : ∃ x, x = t.first := ⟨_, rfl⟩
  rw [← hla, ← hne, ← hfi] at HC ⊢
  clear hla hne hfi hr hnh hno hng hnO hA
  subst eh eb eg eo
  obtain ⟨W, hW⟩ : ∃ W, W = (w.alloc (.cells #[.int .i64 last, .int .i64 next, .slice ha nh hc, .slice ba' no bc, .int .i64 first, .slice ga ng gc, .slice oa nO oc] 61)).alloc (.cells #[.int .i64 0, .int .i64 0, .slice none 0 0, .slice none 0 0, .int .i64 0, .slice none 0 0, .slice none 0 0] 61) := ⟨_, rfl⟩
  have BW : Hid (Below w.heap.size w W) := by
    rw [hW]; exact ((Below.refl _ _).alloc (Nat.le_refl _) _).alloc (by simp) _
  have KB : Hid (Blk W (w.heap.size + 1) #[.int .i64 0, .int .i64 0, .slice none 0 0, .slice none 0 0, .int .i64 0, .slice none 0 0, .slice none 0 0] 61) := by
    have := Blk.new (w.alloc (.cells #[.int .i64 last, .int .i64 next, .slice ha nh hc, .slice ba' no bc, .int .i64 first, .slice ga ng gc, .slice oa nO oc] 61)) #[.int .i64 0, .int .i64 0, .slice none 0 0, .slice none 0 0, .int .i64 0, .slice none 0 0, .slice none 0 0] 61
    rw [hW]; simpa [Hid] using this
  have hsz : N ≤ W.heap.size := by rw [hW, hN]; simp
  go_enter Tryz.func24, Tryz.ntmps24
  go_wp2_with fail
  rw [← hW]
  clear hW
  refine (HC.out W BW.out hsz).mono ?_
  rintro e w1 ⟨la2, ne2, b1, m1, d1, b2, m2, d2, fi2, b3, m3, d3, b4, m4, d4, rc, re, rfl, HR, hb⟩
  have KB1 : Hid (Blk w1 (w.heap.size + 1) #[.int .i64 0, .int .i64 0, .slice none 0 0, .slice none 0 0, .int .i64 0, .slice none 0 0, .slice none 0 0] 61) := KB.out.below hb KB.out.lt
  have BW1 : Hid (Below w.heap.size w w1) := BW.out.trans (hb.mono BW.out.size)
  clear hb KB BW HC hsz
  obtain ⟨z0, z1, z2, z3, z4, z5, z6⟩ := KB1.out.sevenc
  have g0 := KB1.out.free 0
  have g1 := KB1.out.free 1
  have g2 := KB1.out.free 2
  have g3 := KB1.out.free 3
  have g4 := KB1.out.free 4
  have g5 := KB1.out.free 5
  have g6 := KB1.out.free 6
  go_wp2_with fail
  clear z0 z1 z2 z3 z4 z5 z6 g0 g1 g2 g3 g4 g5 g6
  obtain ⟨Z, hZ⟩ : ∃ Z, Z = (((((((w1.setCell ⟨w.heap.size + 1, 0, none⟩ (.int .i64 la2)).setCell ⟨w.heap.size + 1, 1, none⟩ (.int .i64 ne2)).setCell ⟨w.heap.size + 1, 2, none⟩ (.slice b1 m1 d1)).setCell ⟨w.heap.size + 1, 3, none⟩ (.slice b2 m2 d2)).setCell ⟨w.heap.size + 1, 4, none⟩ (.int .i64 fi2)).setCell ⟨w.heap.size + 1, 5, none⟩ (.slice b3 m3 d3)).setCell ⟨w.heap.size + 1, 6, none⟩ (.slice b4 m4 d4)) := ⟨_, rfl⟩
  have KZ : Hid (Blk Z (w.heap.size + 1) #[.int .i64 la2, .int .i64 ne2, .slice b1 m1 d1, .slice b2 m2 d2, .int .i64 fi2, .slice b3 m3 d3, .slice b4 m4 d4] 61) := by rw [hZ]; exact seven_out KB1.out _ _ _ _ _ _ _
  have BZ : Hid (Below w.heap.size w Z) := by rw [hZ]; exact seven_below BW1.out (by omega) _ _ _ _ _ _ _
  obtain ⟨h1, h2, h3, h4, h5, hT⟩ := HR.out
  have hTZ : TrIn (fun g => w.heap.size ≤ g) Z (.slice b1 m1 d1) (.slice b2 m2 d2) (.slice b3 m3 d3) (.slice b4 m4 d4) A.1 := by
    rw [hZ]; exact hT.to (seven_same (by omega) _ _ _ _ _ _ _) (fun g _ hg => by omega)
  rw [← hZ]
  clear hZ KB1 BW1 HR hT hN
  obtain ⟨q0, q1, q2, q3, q4, q5, q6⟩ := KZ.out.sevenc
  rw [← h1, ← h2, ← h3, ← h4, ← h5]
  clear h1 h2 h3 h4 h5
  exact bodyPost_ret (v := .tuple #[.agg #[.int .i64 la2, .int .i64 ne2, .slice b1 m1 d1, .slice b2 m2 d2, .int .i64 fi2, .slice b3 m3 d3, .slice b4 m4 d4], .int .i64 rc, .int .i64 re]) (by simp [results, Tryz.results24, go_sem, q0, q1, q2, q3, q4, q5, q6]) rfl ⟨_, _, _, _, rfl, hTZ, BZ.out⟩

end Go.Proofs.YtnpaejknoipicafGreat

namespace Go.Proofs.YtnpaejknoipicafGreat
open Go.RowKit Go.Sort

theorem wholeP_any (seq time : Int) (t : ByteArray) (w : World) :
    Calls Tryz.prog 79 #[.int .i64 seq, .int .i64 time, .string t] w fun e w' =>
      e = .returned (.agg #[.int .i64 seq, .int .i64 time, .bool true, .bool true, .bool true, .string t]) ∧ w' = w.alloc (.cells #[.int .i64 seq, .int .i64 time, .bool true, .bool true, .bool true, .string t] 89) := by
  go_enter Tryz.func79, Tryz.ntmps79
  go_wp2
  exact bodyPost_ret (v := .agg #[.int .i64 seq, .int .i64 time, .bool true, .bool true, .bool true, .string t]) (by simp [results, Tryz.results79, go_sem]) rfl ⟨rfl, rfl⟩

def p0 : Pk := ⟨258, 5, true, true, true, ⟨#[97, 98]⟩⟩
theorem p0_chk : p0.chk = 0 := by decide
theorem p0_enc : p0.enc = [135, 1, 2, 0, 0, 0, 5, 2, 97, 98] := by decide
theorem p0_dec : Pk.dec [135, 1, 2, 0, 0, 0, 5, 2, 97, 98] = (p0, 0) := by rfl
theorem p0_no : Pk.dec [135, 1, 2, 0, 0, 0, 5, 2, 97, 98, 122] = (Pk.zero, 1) := by rfl

end Go.Proofs.YtnpaejknoipicafGreat

namespace Go.Proofs.YtnpaejknoipicafGreat
open Go.RowKit Go.Sort

theorem ba_get (l : List UInt8) (j : Nat) (h : j < (ba l).size) : ((ba l)[j]'h).toNat = at8 l j := by
  have hl : j < l.length := by rw [ba_size] at h; exact h
  have e : (ba l)[j]'h = l[j] := by simp [ba]; rfl
  rw [e, at8, List.getElem?_eq_getElem hl]
  rfl
theorem num_step (l : List UInt8) (i k : Nat) (h : i + k < l.length) : num ((l.drop i).take (k + 1)) = num ((l.drop i).take k) * 256 + at8 l (i + k) := by
  rw [u8_snoc (l.drop i) k (by simp; omega), num_snoc, List.getElem?_drop]
  rfl

set_option maxHeartbeats 1000000 in
theorem numberAt_any (l : List UInt8) (i n : Nat) (ii ni : Int) (w : World) (hii : ii = (i : Int)) (hni : ni = (n : Int)) (hl : i + n ≤ l.length) (hn : n ≤ 4) (hi : i ≤ 1000) :
    Calls Tryz.prog 117 #[.string (ba l), .int .i64 ii, .int .i64 ni] w fun e w' => e = .returned (.int .i64 (num ((l.drop i).take n))) ∧ w = w' := by
  subst hii hni
  go_enter Tryz.func117, Tryz.ntmps117
  go_wp2
  go_loop [7, 8] (fun v j => ∃ k : Nat, k ≤ n ∧ j = .int .i64 ((i : Int) + k) ∧ v = .int .i64 (num ((l.drop i).take k))) (fun _ j => i + n - (intOf j).toNat)
  case atStart => exact ⟨0, Nat.zero_le _, by simp, rfl⟩
  case round =>
    obtain ⟨k, hk, rfl, rfl⟩ := hrel
    have hnb := num_bd ((l.drop i).take k)
    have hnb1 := hnb.1
    have hb2 : num ((l.drop i).take k) < 256 ^ 3 ∨ k = 4 := by
      have h3 := hnb.2
      by_cases h4 : k = 4
      · exact .inr h4
      · left
        rw [List.length_take] at h3
        have := pow_le3 (min k (l.drop i).length) (by omega)
        omega
    clear hnb
    by_cases hlt : k < n
    · have hsz : i + k < (ba l).size := by rw [ba_size]; omega
      have hlt1 : (i : Int) + (k : Int) < (i : Int) + (n : Int) := by omega
      have hb3 : num ((l.drop i).take k) < 16777216 := by omega
      have hg := ba_get l (i + k) hsz
      have hst := num_step l i k (by omega)
      have hxb := at8_lt l (i + k)
      have HV : Hid (∀ x : Nat, x = at8 l (i + k) → wrap64 (256 * num ((l.drop i).take k) + wrap64 (x : Int)) = num ((l.drop i).take (k + 1))) := by
        intro x hx
        rw [hst, hx]
        unfold wrap64
        omega
      have HG : Hid (((ba l)[i + k]'hsz).toNat = at8 l (i + k)) := hg
      clear hg hst hxb
      go_wp2
      exact ⟨⟨k + 1, by omega, by go_num, by rw [HV.out _ HG.out]⟩, by simp [intOf]; omega⟩
    · have hkn : k = n := by omega
      subst hkn
      have hlt1 : ¬ (i : Int) + (k : Int) < (i : Int) + (k : Int) := by omega
      go_wp2
      go_ret
      exact ⟨rfl, rfl⟩

/-- the bytes of a number as the document's recursion has them -/
def beR : Nat → Int → List UInt8
  | 0, _ => []
  | k + 1, n => beR k (n / 256) ++ [byteU n 0]
theorem beR_len (k : Nat) : ∀ n, (beR k n).length = k := by
  induction k with
  | zero => intro n; rfl
  | succ k ih => intro n; simp [beR, ih]
theorem byteU_div (n : Int) (i : Nat) : byteU (n / 256) i = byteU n (i + 1) := by
  apply u8_ext
  rw [byteU_toNat, byteU_toNat, show (8 * (i + 1)) = 8 + 8 * i by omega, Int.pow_add, ← Int.ediv_ediv_of_nonneg (by decide)]
  rfl
theorem beR1 (n : Int) : beR 1 n = be n 1 := rfl
theorem beR2 (n : Int) : beR 2 n = be n 2 := by
  show [byteU (n / 256) 0, byteU n 0] = [byteU n 1, byteU n 0]
  rw [byteU_div]
theorem beR4 (n : Int) : beR 4 n = be n 4 := by
  show [byteU (n / 256 / 256 / 256) 0, byteU (n / 256 / 256) 0, byteU (n / 256) 0, byteU n 0] = [byteU n 3, byteU n 2, byteU n 1, byteU n 0]
  rw [byteU_div, byteU_div, byteU_div, byteU_div, byteU_div, byteU_div]

theorem ba_append (a b : List UInt8) : ba a ++ ba b = ba (a ++ b) := by
  apply ByteArray.ext; simp [ba]
theorem one_back (n : Int) (W : World) (b : Nat) (h : W.cell? ⟨b, 0, none⟩ = some (.int .u8 (n % 256))) :
    (convert 186 9 (.slice (some ⟨b, 0, none⟩) 1 1)).run Tryz.prog W = .ok (.string (ba [byteU n 0])) W := by
  refine run_convert_bytes_back W 186 9 5 ⟨b, 0, none⟩ 1 [byteU n 0] Tryz.underlying186 Tryz.underlying5 Tryz.underlying9 (fun j hj => ?_)
  have hj0 : j = 0 := by simpa using hj
  subst hj0
  rw [Addr.add_lit]
  show W.cell? ⟨b, 0, none⟩ = some (.int .u8 (((byteU n 0).toNat : Nat) : Int))
  rw [b0]
  exact h

set_option maxHeartbeats 2000000 in
theorem numberBytes_any (k : Nat) : ∀ (n ki : Int) (w : World), ki = (k : Int) → 0 ≤ n → n ≤ 4294967295 → k ≤ 8 →
    Calls Tryz.prog 162 #[.int .i64 n, .int .i64 ki] w fun e w' => e = .returned (.string (ba (beR k n))) ∧ Below w.heap.size w w' := by
  induction k with
  | zero =>
    intro n ki w hki hn _ _
    subst hki
    go_enter Tryz.func162, Tryz.ntmps162
    go_wp2
    go_ret
    exact ⟨rfl, Below.refl _ _⟩
  | succ k ih =>
    intro n ki w hki hn hn2 hk8
    have hk0 : (ki == 0) = false := by rw [hki]; simp; omega
    have hkb : 0 ≤ ki ∧ ki ≤ 8 := by omega
    have IH := @id (Hid (∀ w : World, Calls Tryz.prog 162 #[.int .i64 (n / 256), .int .i64 (ki - 1)] w fun e w' => e = .returned (.string (ba (beR k (n / 256)))) ∧ Below w.heap.size w w')) (fun w => ih (n / 256) (ki - 1) w (by omega) (by omega) (by omega) (by omega))
    obtain ⟨r, hr⟩ : ∃ r, r = beR k (n / 256) := ⟨_, rfl⟩
    rw [← hr] at IH
    have hrl : (ba r).size ≤ 8 := by rw [hr, ba_size, beR_len]; omega
    have HR : Hid (r = beR k (n / 256)) := hr
    clear hr hki ih
    obtain ⟨hk1, hk2⟩ := hkb
    go_enter Tryz.func162, Tryz.ntmps162
    go_wp2_with fail
    have hw1 : IntKind.i64.wrap (n.tdiv 256) = n / 256 := by rw [Int.tdiv_eq_ediv_of_nonneg hn, IntKind.wrap_i64]; omega
    have hw2 : IntKind.i64.wrap (ki - 1) = ki - 1 := by rw [IntKind.wrap_i64]; omega
    have hw3 : n.tmod 256 = n % 256 := Int.tmod_eq_emod_of_nonneg hn
    have hw4 : IntKind.u8.wrap (n % 256) = n % 256 := by rw [IntKind.wrap_u8]; omega
    have hsm : ¬ 9223372036854775807 < (ba r).size + (ba [byteU n 0]).size := by rw [ba_size [byteU n 0]]; simp; omega
    have hcv := one_back n
    go_region_with (go_at_call 162; refine (IH.out _).mono ?_; rintro e w1 ⟨rfl, hb1⟩; have hcw := hb1.cell (p := ⟨w.heap.size, 0, none⟩))
    all_goals
      go_wp2
      go_ret
      refine ⟨?_, ?_⟩
      · show Ending.returned (.string (ba r ++ ba [byteU n 0])) = _
        rw [ba_append, HR.out]
        rfl
      · first
          | exact (((Below.refl _ w).drew).trans hb1).alloc (((Below.refl _ w).drew).trans hb1).size _
          | exact (((Below.refl _ w).alloc (Nat.le_refl _) _).drew).trans (hb1.mono (by simp))

end Go.Proofs.YtnpaejknoipicafGreat

namespace Go.Proofs.YtnpaejknoipicafGreat
open Go.RowKit Go.Sort

set_option maxHeartbeats 8000000 in
theorem packetBytes_any (p : Pk) (w : World) (h : p.chk = 0) :
    Calls Tryz.prog 121 #[p.val] w fun e w' => e = .returned (.string (ba p.enc)) ∧ Below w.heap.size w w' := by
  obtain ⟨h1, h2, h3, h4, h5, _⟩ := Pk.chk_ok h
  obtain ⟨hf1, hf2⟩ := Pk.flags_le p.f p.e p.k
  obtain ⟨fl, hfl⟩ : ∃ fl, fl = 128 + Pk.flags p.f p.e p.k := ⟨_, rfl⟩
  obtain ⟨x1, hx1⟩ : ∃ x, x = ba (be fl 1) := ⟨_, rfl⟩
  obtain ⟨x2, hx2⟩ : ∃ x, x = ba (be p.seq 2) := ⟨_, rfl⟩
  obtain ⟨x3, hx3⟩ : ∃ x, x = ba (be p.time 4) := ⟨_, rfl⟩
  obtain ⟨x4, hx4⟩ : ∃ x, x = ba (be p.t.size 1) := ⟨_, rfl⟩
  have s1 : x1.size = 1 := by rw [hx1, ba_size]; rfl
  have s2 : x2.size = 2 := by rw [hx2, ba_size]; rfl
  have s3 : x3.size = 4 := by rw [hx3, ba_size]; rfl
  have s4 : x4.size = 1 := by rw [hx4, ba_size]; rfl
  have hfin : x1 ++ x2 ++ x3 ++ x4 ++ p.t = ba p.enc := by
    rw [hx1, hx2, hx3, hx4, ← ba_of p.t, ba_append, ba_append, ba_append, ba_append, ba_of, hfl]
    rfl
  have c1 : ∀ W : World, Calls Tryz.prog 162 #[.int .i64 fl, .int .i64 1] W fun e w' => e = .returned (.string x1) ∧ Below W.heap.size W w' := fun W => by
    rw [hx1, ← beR1]; exact numberBytes_any 1 fl 1 W rfl (by omega) (by omega) (by decide)
  have c2 : ∀ W : World, Calls Tryz.prog 162 #[.int .i64 p.seq, .int .i64 2] W fun e w' => e = .returned (.string x2) ∧ Below W.heap.size W w' := fun W => by
    rw [hx2, ← beR2]; exact numberBytes_any 2 p.seq 2 W rfl (by omega) (by omega) (by decide)
  have c3 : ∀ W : World, Calls Tryz.prog 162 #[.int .i64 p.time, .int .i64 4] W fun e w' => e = .returned (.string x3) ∧ Below W.heap.size W w' := fun W => by
    rw [hx3, ← beR4]; exact numberBytes_any 4 p.time 4 W rfl (by omega) (by omega) (by decide)
  have c4 : ∀ W : World, Calls Tryz.prog 162 #[.int .i64 (p.t.size : Int), .int .i64 1] W fun e w' => e = .returned (.string x4) ∧ Below W.heap.size W w' := fun W => by
    rw [hx4, ← beR1]; exact numberBytes_any 1 p.t.size 1 W rfl (by omega) (by omega) (by decide)
  rw [← hfin]
  obtain ⟨seq, time, f, e, k, t⟩ := p
  simp only [Pk.val] at *
  obtain ⟨W, hW⟩ : ∃ W, W = w.alloc (.cells #[.int .i64 seq, .int .i64 time, .bool f, .bool e, .bool k, .string t] 89) := ⟨_, rfl⟩
  have bW : Blk W w.heap.size #[.int .i64 seq, .int .i64 time, .bool f, .bool e, .bool k, .string t] 89 := by rw [hW]; exact Blk.new _ _ _
  have hbW : Below w.heap.size w W := by rw [hW]; exact (Below.refl _ _).alloc (Nat.le_refl _) _
  obtain ⟨d0, d1, _, _, _, d5, _⟩ := bW.six
  have k0 := cell_regrown d0
  have k1 := cell_regrown d1
  have k5 := cell_regrown d5
  have C1 := @id (Hid (∀ d os, Calls Tryz.prog 162 #[.int .i64 fl, .int .i64 1] (grow (redrawn W d) os) fun e w'' => e = .returned (.string x1) ∧ ∃ p : Regrown, w'' = grow (redrawn W p.d) p.os)) (fun d os => Calls.regrown_of (c1 _))
  have C2 := @id (Hid (∀ d os, Calls Tryz.prog 162 #[.int .i64 seq, .int .i64 2] (grow (redrawn W d) os) fun e w'' => e = .returned (.string x2) ∧ ∃ p : Regrown, w'' = grow (redrawn W p.d) p.os)) (fun d os => Calls.regrown_of (c2 _))
  have C3 := @id (Hid (∀ d os, Calls Tryz.prog 162 #[.int .i64 time, .int .i64 4] (grow (redrawn W d) os) fun e w'' => e = .returned (.string x3) ∧ ∃ p : Regrown, w'' = grow (redrawn W p.d) p.os)) (fun d os => Calls.regrown_of (c3 _))
  have C4 := @id (Hid (∀ d os, Calls Tryz.prog 162 #[.int .i64 (t.size : Int), .int .i64 1] (grow (redrawn W d) os) fun e w'' => e = .returned (.string x4) ∧ ∃ p : Regrown, w'' = grow (redrawn W p.d) p.os)) (fun d os => Calls.regrown_of (c4 _))
  have n1 : ¬ 9223372036854775807 < x1.size + x2.size := by omega
  have n2 : ¬ 9223372036854775807 < x1.size + x2.size + x3.size := by omega
  have n3 : ¬ 9223372036854775807 < x1.size + x2.size + x3.size + x4.size := by omega
  have n4 : ¬ 9223372036854775807 < x1.size + x2.size + x3.size + x4.size + t.size := by omega
  clear c1 c2 c3 c4 d0 d1 d5 bW hx1 hx2 hx3 hx4 s1 s2 s3 s4 hfin h h1 h2 h3 h4 h5 hf1 hf2
  have HW : Hid _ := hW
  subst hfl
  clear hW
  cases f <;> cases e <;> cases k
  all_goals
    simp only [Pk.flags, Bool.false_eq_true, if_true, if_false, Int.reduceAdd] at C1
    go_enter Tryz.func121, Tryz.ntmps121
    go_wp2_with fail
    rw [← HW.out]
    refine wp_region_quiet_below (by kernel_rfl) (by kernel_rfl) ?_
    repeat (quiet_step (first | (go_at_call_of 162 (Value.int IntKind.i64 2); exact C2.out _ _) | (go_at_call_of 162 (Value.int IntKind.i64 4); exact C3.out _ _) | (go_at_call_of 162 (Value.int IntKind.i64 (t.size : Int)); exact C4.out _ _) | exact C1.out _ _))
    refine wpQuiet_nil ?_
    intro _ hw'
    obtain ⟨⟨dq, osq⟩, hw''⟩ := hw'
    subst hw''
    clear k0 k1 k5
    go_wp2
    go_ret
    exact ⟨rfl, hbW.trans ((below_regrown W dq osq).mono hbW.size)⟩

end Go.Proofs.YtnpaejknoipicafGreat

namespace Go.Proofs.YtnpaejknoipicafGreat
open Go.RowKit

set_option maxHeartbeats 4000000 in
theorem track_set7 {w : World} {g : Nat} {C : Array Value} {t : TypeId} (h : Blk w g C t) (hs : C.size = 7) (x0 x1 x2 x3 x4 x5 x6 : Value) :
    (((((((w.setCell ⟨g, 0, none⟩ x0).setCell ⟨g, 1, none⟩ x1).setCell ⟨g, 2, none⟩ x2).setCell ⟨g, 3, none⟩ x3).setCell ⟨g, 4, none⟩ x4).setCell ⟨g, 5, none⟩ x5).setCell ⟨g, 6, none⟩ x6).heap.size = w.heap.size ∧ Blk (((((((w.setCell ⟨g, 0, none⟩ x0).setCell ⟨g, 1, none⟩ x1).setCell ⟨g, 2, none⟩ x2).setCell ⟨g, 3, none⟩ x3).setCell ⟨g, 4, none⟩ x4).setCell ⟨g, 5, none⟩ x5).setCell ⟨g, 6, none⟩ x6) g #[x0, x1, x2, x3, x4, x5, x6] t ∧ ∀ j, j ≠ g → (((((((w.setCell ⟨g, 0, none⟩ x0).setCell ⟨g, 1, none⟩ x1).setCell ⟨g, 2, none⟩ x2).setCell ⟨g, 3, none⟩ x3).setCell ⟨g, 4, none⟩ x4).setCell ⟨g, 5, none⟩ x5).setCell ⟨g, 6, none⟩ x6).heap[j]? = w.heap[j]? := by
  obtain ⟨l⟩ := C
  match l, hs with
  | [c0, c1, c2, c3, c4, c5, c6], _ =>
    have e : ∀ (V : World) (i : Nat) (x : Value), (V.setCell ⟨g, i, none⟩ x).heap.size = V.heap.size := fun V i x => by simp
    have k := ((((((h.set 0 x0).set 1 x1).set 2 x2).set 3 x3).set 4 x4).set 5 x5).set 6 x6
    refine ⟨by rw [e, e, e, e, e, e, e], k, fun j hj => ?_⟩
    iterate 6 refine (Below.heap_setCell _ _ _ _ (by exact hj)).trans ?_
    exact Below.heap_setCell _ _ _ _ (by exact hj)
theorem track_cells7 {w : World} {g : Nat} {C : Array Value} {t : TypeId} (h : Blk w g C t) (hs : C.size = 7) : ∃ c0 c1 c2 c3 c4 c5 c6, w.cell? ⟨g, 0, none⟩ = some c0 ∧ w.cell? ⟨g, 1, none⟩ = some c1 ∧ w.cell? ⟨g, 2, none⟩ = some c2 ∧ w.cell? ⟨g, 3, none⟩ = some c3 ∧ w.cell? ⟨g, 4, none⟩ = some c4 ∧ w.cell? ⟨g, 5, none⟩ = some c5 ∧ w.cell? ⟨g, 6, none⟩ = some c6 := by
  obtain ⟨l⟩ := C
  match l, hs with
  | [c0, c1, c2, c3, c4, c5, c6], _ => exact ⟨c0, c1, c2, c3, c4, c5, c6, h.cell rfl, h.cell rfl, h.cell rfl, h.cell rfl, h.cell rfl, h.cell rfl, h.cell rfl⟩

def tp1 : Pk := ⟨65535, 5, true, true, true, ⟨#[97]⟩⟩
def tp2 : Pk := ⟨1, 9, true, true, true, ⟨#[99]⟩⟩
def tp3 : Pk := ⟨0, 7, true, true, true, ⟨#[98]⟩⟩
def tB1 : Tr := (feedA Tr.zero tp1.enc).1
def tB2 : Tr := (feedA tB1 tp2.enc).1
def tB3 : Tr := (feedA tB2 tp3.enc).1
def tBd : Tr := (drainA tB2).1
theorem tbF1 : (feedA Tr.zero tp1.enc).2 = (0, 0) := by kernel_rfl
theorem tbF2 : (feedA tB1 tp2.enc).2 = (0, 0) := by kernel_rfl
theorem tbF3 : (feedA tB2 tp3.enc).2 = (2, 0) := by kernel_rfl
theorem tbFd : (drainA tB2).2 = (1, 0) := by kernel_rfl
theorem tbK : tB3.chk = 0 ∧ tB3.last = 131073 ∧ tB3.L.length = 2 ∧ tBd.L.length = 1 := ⟨by kernel_rfl, by kernel_rfl, by kernel_rfl, by kernel_rfl⟩

theorem trWhole_any (seq time : Int) (t : ByteArray) (w : World) :
    Calls Tryz.prog 79 #[.int .i64 seq, .int .i64 time, .string t] w fun e w' => e = .returned (.agg #[.int .i64 seq, .int .i64 time, .bool true, .bool true, .bool true, .string t]) ∧ Below w.heap.size w w' := by
  go_enter Tryz.func79, Tryz.ntmps79
  go_wp2
  exact bodyPost_ret (v := .agg #[.int .i64 seq, .int .i64 time, .bool true, .bool true, .bool true, .string t]) (by simp [results, Tryz.results79, go_sem]) rfl ⟨rfl, (Below.refl _ _).alloc (Nat.le_refl _) _⟩

theorem bytesOf_any (s t : Int) (f e k : Bool) (x : ByteArray) (w : World) (h : (Pk.mk s t f e k x).chk = 0) :
    Calls Tryz.prog 78 #[.agg #[.int .i64 s, .int .i64 t, .bool f, .bool e, .bool k, .string x]] w fun r w' => r = .returned (.string (ba (Pk.mk s t f e k x).enc)) ∧ Below w.heap.size w w' := by
  obtain ⟨b, hb⟩ : ∃ b, b = ba (Pk.mk s t f e k x).enc := ⟨_, rfl⟩
  have HP : Hid (∀ W : World, Calls Tryz.prog 121 #[.agg #[.int .i64 s, .int .i64 t, .bool f, .bool e, .bool k, .string x]] W fun r w' => r = .returned (.string b) ∧ Below W.heap.size W w') := fun W => by rw [hb]; exact packetBytes_any _ W h
  rw [← hb]
  clear hb h
  go_enter Tryz.func78, Tryz.ntmps78
  go_wp2_with fail
  refine (HP.out _).mono ?_
  rintro r w1 ⟨rfl, b1⟩
  have BW : Hid (Below w.heap.size w w1) := ((Below.refl _ w).alloc (Nat.le_refl _) _).trans (b1.mono (by simp))
  clear b1
  go_wp2
  go_ret
  exact ⟨rfl, BW.out⟩

/-- track.Feed, as the laws' walks want it: all values under names -/
theorem begFeed (t t' : Tr) (s : List UInt8) (cl : Nat) (er : Int) (la0 ne0 fi0 : Int) (hv bv gv ov : Value) (S : Nat → Prop) (w : World) (hf : feedA t s = (t', cl, er)) (hl : la0 = t.last) (hn : ne0 = t.next) (hi : fi0 = t.first) (hr : TrIn S w hv bv gv ov t) :
    Calls Tryz.prog 23 #[.agg #[.int .i64 la0, .int .i64 ne0, hv, bv, .int .i64 fi0, gv, ov], .string (ba s)] w fun e w' => ∃ la1 ne1 ha1 hn1 hc1 oa1 on1 oc1 fi1 ga1 gn1 gc1 pa1 pn1 pc1, e = .returned (.tuple #[.agg #[.int .i64 la1, .int .i64 ne1, .slice ha1 hn1 hc1, .slice oa1 on1 oc1, .int .i64 fi1, .slice ga1 gn1 gc1, .slice pa1 pn1 pc1], .int .i64 cl, .int .i64 er]) ∧ Hid (la1 = t'.last ∧ ne1 = t'.next ∧ fi1 = t'.first ∧ gn1 = t'.L.length) ∧ Hid (TrIn (fun g => w.heap.size ≤ g) w' (.slice ha1 hn1 hc1) (.slice oa1 on1 oc1) (.slice ga1 gn1 gc1) (.slice pa1 pn1 pc1) t') ∧ Below w.heap.size w w' := by
  subst hl hn hi
  refine (trkFeed_any S t s hv bv gv ov w hr).mono ?_
  rw [hf]
  rintro e w' ⟨x1, x2, x3, x4, rfl, q, b⟩
  obtain ⟨a1, c1, a2, c2, a3, c3, a4, c4, e1, e2, e3, e4⟩ := q.slices
  subst e1 e2 e3 e4
  exact ⟨_, _, _, _, _, _, _, _, _, _, _, _, _, _, _, rfl, ⟨rfl, rfl, rfl, rfl⟩, q, b⟩
theorem begDrain (t t' : Tr) (cl : Nat) (er : Int) (la0 ne0 fi0 : Int) (hv bv gv ov : Value) (S : Nat → Prop) (w : World) (hf : drainA t = (t', cl, er)) (hl : la0 = t.last) (hn : ne0 = t.next) (hi : fi0 = t.first) (hr : TrIn S w hv bv gv ov t) :
    Calls Tryz.prog 24 #[.agg #[.int .i64 la0, .int .i64 ne0, hv, bv, .int .i64 fi0, gv, ov]] w fun e w' => ∃ la1 ne1 ha1 hn1 hc1 oa1 on1 oc1 fi1 ga1 gn1 gc1 pa1 pn1 pc1, e = .returned (.tuple #[.agg #[.int .i64 la1, .int .i64 ne1, .slice ha1 hn1 hc1, .slice oa1 on1 oc1, .int .i64 fi1, .slice ga1 gn1 gc1, .slice pa1 pn1 pc1], .int .i64 cl, .int .i64 er]) ∧ Hid (la1 = t'.last ∧ ne1 = t'.next ∧ fi1 = t'.first ∧ gn1 = t'.L.length) ∧ Hid (TrIn (fun g => w.heap.size ≤ g) w' (.slice ha1 hn1 hc1) (.slice oa1 on1 oc1) (.slice ga1 gn1 gc1) (.slice pa1 pn1 pc1) t') ∧ Below w.heap.size w w' := by
  subst hl hn hi
  refine (trkDrain_any S t hv bv gv ov w hr).mono ?_
  rw [hf]
  rintro e w' ⟨x1, x2, x3, x4, rfl, q, b⟩
  obtain ⟨a1, c1, a2, c2, a3, c3, a4, c4, e1, e2, e3, e4⟩ := q.slices
  subst e1 e2 e3 e4
  exact ⟨_, _, _, _, _, _, _, _, _, _, _, _, _, _, _, rfl, ⟨rfl, rfl, rfl, rfl⟩, q, b⟩

end Go.Proofs.YtnpaejknoipicafGreat

namespace Go.Proofs.YtnpaejknoipicafGreat
open Go.RowKit

set_option maxHeartbeats 16000000 in
set_option maxRecDepth 100000 in
theorem trackBegun_any (w : World) :
    Calls Tryz.prog 28 #[] w fun e w' => e = .returned (.bool true) ∧ Below w.heap.size w w' := by
  obtain ⟨bb1, hb1⟩ : ∃ b, b = tp1.enc := ⟨_, rfl⟩
  obtain ⟨bb2, hb2⟩ : ∃ b, b = tp2.enc := ⟨_, rfl⟩
  obtain ⟨bb3, hb3⟩ : ∃ b, b = tp3.enc := ⟨_, rfl⟩
  obtain ⟨tb0, ht0⟩ : ∃ t, t = Tr.zero := ⟨_, rfl⟩
  obtain ⟨tb1, ht1⟩ : ∃ t, t = tB1 := ⟨_, rfl⟩
  obtain ⟨tb2, ht2⟩ : ∃ t, t = tB2 := ⟨_, rfl⟩
  obtain ⟨tb3, ht3⟩ : ∃ t, t = tB3 := ⟨_, rfl⟩
  obtain ⟨tb4, ht4⟩ : ∃ t, t = tBd := ⟨_, rfl⟩
  have HE1 : Hid (feedA tb0 bb1 = (tb1, 0, 0)) := by rw [ht0, hb1, ht1]; exact Prod.ext rfl tbF1
  have HE2 : Hid (feedA tb1 bb2 = (tb2, 0, 0)) := by rw [ht1, hb2, ht2]; exact Prod.ext rfl tbF2
  have HE3 : Hid (feedA tb2 bb3 = (tb3, 2, 0)) := by rw [ht2, hb3, ht3]; exact Prod.ext rfl tbF3
  have HE4 : Hid (drainA tb2 = (tb4, 1, 0)) := by rw [ht2, ht4]; exact Prod.ext rfl tbFd
  have HK : Hid (tb3.chk = 0 ∧ tb3.last = 131073 ∧ tb3.L.length = 2 ∧ tb4.L.length = 1) := by rw [ht3, ht4]; exact tbK
  have HZ : Hid (tb0.last = 0 ∧ tb0.next = 0 ∧ tb0.first = 0 ∧ ∀ W, TrIn (fun _ => True) W (.slice none 0 0) (.slice none 0 0) (.slice none 0 0) (.slice none 0 0) tb0) := by rw [ht0]; exact ⟨rfl, rfl, rfl, fun W => TrIn.zero _ W⟩
  have HW : Hid (∀ (seq time : Int) (t : ByteArray) (W : World), Calls Tryz.prog 79 #[.int .i64 seq, .int .i64 time, .string t] W fun e w' => e = .returned (.agg #[.int .i64 seq, .int .i64 time, .bool true, .bool true, .bool true, .string t]) ∧ Below W.heap.size W w') := trWhole_any
  have HB1 : Hid (∀ W : World, Calls Tryz.prog 78 #[.agg #[.int .i64 65535, .int .i64 5, .bool true, .bool true, .bool true, .string ⟨#[97]⟩]] W fun e w' => e = .returned (.string (ba bb1)) ∧ Below W.heap.size W w') := by rw [hb1]; exact fun W => bytesOf_any _ _ _ _ _ _ W (by decide)
  have HB2 : Hid (∀ W : World, Calls Tryz.prog 78 #[.agg #[.int .i64 1, .int .i64 9, .bool true, .bool true, .bool true, .string ⟨#[99]⟩]] W fun e w' => e = .returned (.string (ba bb2)) ∧ Below W.heap.size W w') := by rw [hb2]; exact fun W => bytesOf_any _ _ _ _ _ _ W (by decide)
  have HB3 : Hid (∀ W : World, Calls Tryz.prog 78 #[.agg #[.int .i64 0, .int .i64 7, .bool true, .bool true, .bool true, .string ⟨#[98]⟩]] W fun e w' => e = .returned (.string (ba bb3)) ∧ Below W.heap.size W w') := by rw [hb3]; exact fun W => bytesOf_any _ _ _ _ _ _ W (by decide)
  have HF1 : Hid (∀ W : World, Calls Tryz.prog 23 #[.agg #[.int .i64 0, .int .i64 0, .slice none 0 0, .slice none 0 0, .int .i64 0, .slice none 0 0, .slice none 0 0], .string (ba bb1)] W fun e w' => ∃ la1 ne1 ha1 hn1 hc1 oa1 on1 oc1 fi1 ga1 gn1 gc1 pa1 pn1 pc1, e = .returned (.tuple #[.agg #[.int .i64 la1, .int .i64 ne1, .slice ha1 hn1 hc1, .slice oa1 on1 oc1, .int .i64 fi1, .slice ga1 gn1 gc1, .slice pa1 pn1 pc1], .int .i64 0, .int .i64 0]) ∧ Hid (la1 = tb1.last ∧ ne1 = tb1.next ∧ fi1 = tb1.first ∧ gn1 = tb1.L.length) ∧ Hid (TrIn (fun g => W.heap.size ≤ g) w' (.slice ha1 hn1 hc1) (.slice oa1 on1 oc1) (.slice ga1 gn1 gc1) (.slice pa1 pn1 pc1) tb1) ∧ Below W.heap.size W w') := fun W => begFeed tb0 tb1 bb1 0 0 0 0 0 _ _ _ _ _ W HE1.out HZ.out.1.symm HZ.out.2.1.symm HZ.out.2.2.1.symm (HZ.out.2.2.2 W)
  clear hb1 hb2 hb3 ht0 ht1 ht2 ht3 ht4 HZ HE1
  go_enter Tryz.func28, Tryz.ntmps28
  go_wp2_with fail
  refine (HW.out 65535 5 ⟨#[97]⟩ w).mono ?_
  rintro e w1 ⟨rfl, c1⟩
  go_wp2_with fail
  refine (HB1.out w1).mono ?_
  rintro e w2 ⟨rfl, c2⟩
  go_wp2_with fail
  refine (HF1.out w2).mono ?_
  rintro e w3 ⟨la1, ne1, ha1, hn1, hc1, oa1, on1, oc1, fi1, ga1, gn1, gc1, pa1, pn1, pc1, rfl, G1, T1, c3⟩
  have BX : Hid (Below w.heap.size w w3) := (c1.trans (c2.mono c1.size)).trans (c3.mono (Nat.le_trans c1.size c2.size))
  clear c1 c2 c3 HF1 HB1
  obtain ⟨V1, hV1⟩ : ∃ V, V = w3.alloc (.cells #[.int .i64 la1, .int .i64 ne1, .slice ha1 hn1 hc1, .slice oa1 on1 oc1, .int .i64 fi1, .slice ga1 gn1 gc1, .slice pa1 pn1 pc1] 61) := ⟨_, rfl⟩
  obtain ⟨bq1, hbq1⟩ : ∃ b, b = w3.heap.size := ⟨_, rfl⟩
  have KP1 : Hid (Blk V1 bq1 #[.int .i64 la1, .int .i64 ne1, .slice ha1 hn1 hc1, .slice oa1 on1 oc1, .int .i64 fi1, .slice ga1 gn1 gc1, .slice pa1 pn1 pc1] 61) := by rw [hbq1]; exact Blk.newE hV1
  have TR1 : Hid (TrIn (fun _ => True) V1 (.slice ha1 hn1 hc1) (.slice oa1 on1 oc1) (.slice ga1 gn1 gc1) (.slice pa1 pn1 pc1) tb1) := by rw [hV1]; exact (T1.out.mono fun _ _ _ => trivial).to (SameOn.alloc _) fun _ _ h => h
  have BW1 : Hid (Below w.heap.size w V1) := by rw [hV1]; exact BX.out.alloc BX.out.size _
  clear T1 BX
  have HF2 : Hid (∀ W : World, TrIn (fun _ => True) W (.slice ha1 hn1 hc1) (.slice oa1 on1 oc1) (.slice ga1 gn1 gc1) (.slice pa1 pn1 pc1) tb1 → Calls Tryz.prog 23 #[.agg #[.int .i64 la1, .int .i64 ne1, .slice ha1 hn1 hc1, .slice oa1 on1 oc1, .int .i64 fi1, .slice ga1 gn1 gc1, .slice pa1 pn1 pc1], .string (ba bb2)] W fun e w' => ∃ la2 ne2 ha2 hn2 hc2 oa2 on2 oc2 fi2 ga2 gn2 gc2 pa2 pn2 pc2, e = .returned (.tuple #[.agg #[.int .i64 la2, .int .i64 ne2, .slice ha2 hn2 hc2, .slice oa2 on2 oc2, .int .i64 fi2, .slice ga2 gn2 gc2, .slice pa2 pn2 pc2], .int .i64 0, .int .i64 0]) ∧ Hid (la2 = tb2.last ∧ ne2 = tb2.next ∧ fi2 = tb2.first ∧ gn2 = tb2.L.length) ∧ Hid (TrIn (fun g => W.heap.size ≤ g) w' (.slice ha2 hn2 hc2) (.slice oa2 on2 oc2) (.slice ga2 gn2 gc2) (.slice pa2 pn2 pc2) tb2) ∧ Below W.heap.size W w') := fun W hT => begFeed tb1 tb2 bb2 0 0 _ _ _ _ _ _ _ _ W HE2.out G1.out.1 G1.out.2.1 G1.out.2.2.1 hT
  clear HE2
  go_wp2_with fail
  rw [← hV1]
  rw [← hbq1]
  clear hV1 hbq1 w1 w2 w3
  refine region_main (by kernel_rfl) (by kernel_rfl) [.quiet (.agg #[.int .i64 la1, .int .i64 ne1, .slice ha1 hn1 hc1, .slice oa1 on1 oc1, .int .i64 fi1, .slice ga1 gn1 gc1, .slice pa1 pn1 pc1]), .qcall (.agg #[.int .i64 1, .int .i64 9, .bool true, .bool true, .bool true, .string ⟨#[99]⟩]), .qcall (.string (ba bb2)), .main, .fin (fun r => r), .fin (exT 0), .fin (exT 1), .fin (exT 2), .box 61 #[.int .i64 0, .int .i64 0, .slice none 0 0, .slice none 0 0, .int .i64 0, .slice none 0 0, .slice none 0 0], .put 8 (fun r => aggC (exT 0 r)), .fin (exT 1), .fin (exT 2)] 3 (by kernel_rfl)
    (fun S r w' => ∃ la2 ne2 ha2 hn2 hc2 oa2 on2 oc2 fi2 ga2 gn2 gc2 pa2 pn2 pc2, r = .tuple #[.agg #[.int .i64 la2, .int .i64 ne2, .slice ha2 hn2 hc2, .slice oa2 on2 oc2, .int .i64 fi2, .slice ga2 gn2 gc2, .slice pa2 pn2 pc2], .int .i64 0, .int .i64 0] ∧ (la2 = tb2.last ∧ ne2 = tb2.next ∧ fi2 = tb2.first ∧ gn2 = tb2.L.length) ∧ TrIn S w' (.slice ha2 hn2 hc2) (.slice oa2 on2 oc2) (.slice ga2 gn2 gc2) (.slice pa2 pn2 pc2) tb2) ?loc ?step ?fin
  case loc =>
    rintro S r w1 w3 ⟨la2, ne2, ha2, hn2, hc2, oa2, on2, oc2, fi2, ga2, gn2, gc2, pa2, pn2, pc2, rfl, h1, h2⟩ hs hsame
    exact ⟨la2, ne2, ha2, hn2, hc2, oa2, on2, oc2, fi2, ga2, gn2, gc2, pa2, pn2, pc2, rfl, h1, h2.to ⟨hs, fun g hg hS => hsame g hS hg⟩ (fun _ _ h => h)⟩
  case step =>
    intro i o ho a' w' r hb hfree hvals
    have f1 : a'.eval (.tmp 1) = .pointer (some ⟨bq1, 0, none⟩) := (hfree 1 (by kernel_rfl)).trans rfl
    obtain ⟨y0, y1, y2, y3, y4, y5, y6⟩ := (KP1.out.below hb KP1.out.lt).sevenc
    match i, ho with
    | 0, ho =>
      simp at ho; subst ho
      show (execOp a'.eval _).run _ w' = .ok (.value _) w'
      generalize a'.eval = ρ at *
      simp [execOp, go_sem, f1, y0, y1, y2, y3, y4, y5, y6]
    | 1, ho =>
      simp at ho; subst ho
      have ef : a'.eval (.func 79) = .func (.func 79) #[] #[] := rfl
      have ec : ∀ v, a'.eval (.const v) = v := fun _ => rfl
      show ∃ f args, (execOp a'.eval _).run _ w' = .ok (.enter f args) w' ∧ _
      generalize a'.eval = ρ at *
      exact ⟨79, #[.int .i64 1, .int .i64 9, .string ⟨#[99]⟩], by simp [execOp, go_sem, ef, ec], HW.out 1 9 ⟨#[99]⟩ w'⟩
    | 2, ho =>
      simp at ho; subst ho
      have e23 : a'.eval (.tmp 23) = .agg #[.int .i64 1, .int .i64 9, .bool true, .bool true, .bool true, .string ⟨#[99]⟩] := hvals 1 _ (by kernel_rfl) rfl
      have ef : a'.eval (.func 78) = .func (.func 78) #[] #[] := rfl
      show ∃ f args, (execOp a'.eval _).run _ w' = .ok (.enter f args) w' ∧ _
      generalize a'.eval = ρ at *
      exact ⟨78, #[.agg #[.int .i64 1, .int .i64 9, .bool true, .bool true, .bool true, .string ⟨#[99]⟩]], by simp [execOp, go_sem, e23, ef], HB2.out w'⟩
    | 3, ho =>
      simp at ho; subst ho
      have e22 : a'.eval (.tmp 22) = .agg #[.int .i64 la1, .int .i64 ne1, .slice ha1 hn1 hc1, .slice oa1 on1 oc1, .int .i64 fi1, .slice ga1 gn1 gc1, .slice pa1 pn1 pc1] := hvals 0 _ (by kernel_rfl) rfl
      have e24 : a'.eval (.tmp 24) = .string (ba bb2) := hvals 2 _ (by kernel_rfl) rfl
      have ef : a'.eval (.func 23) = .func (.func 23) #[] #[] := rfl
      show ∃ f args, (execOp a'.eval _).run _ w' = .ok (.enter f args) w' ∧ _
      generalize a'.eval = ρ at *
      refine ⟨23, #[.agg #[.int .i64 la1, .int .i64 ne1, .slice ha1 hn1 hc1, .slice oa1 on1 oc1, .int .i64 fi1, .slice ga1 gn1 gc1, .slice pa1 pn1 pc1], .string (ba bb2)], by simp [execOp, go_sem, e22, e24, ef], ?_⟩
      refine (HF2.out w' (TR1.out.below hb)).mono ?_
      rintro e w'' ⟨la2, ne2, ha2, hn2, hc2, oa2, on2, oc2, fi2, ga2, gn2, gc2, pa2, pn2, pc2, rfl, q1, q2, q3⟩
      exact ⟨_, rfl, ⟨la2, ne2, ha2, hn2, hc2, oa2, on2, oc2, fi2, ga2, gn2, gc2, pa2, pn2, pc2, rfl, q1.out, q2.out.mono fun g hl hg => ⟨hl, .inr hg⟩⟩, q3⟩
    | 4, ho =>
      simp at ho; subst ho
      have e25 : a'.eval (.tmp 25) = r := hvals 3 _ (by kernel_rfl) rfl
      show ∀ S, _ → (execOp a'.eval _).run _ w' = .ok (.value _) w'
      rintro S ⟨la2, ne2, ha2, hn2, hc2, oa2, on2, oc2, fi2, ga2, gn2, gc2, pa2, pn2, pc2, rfl, _⟩
      try simp only [exT] at e25
      generalize a'.eval = ρ at *
      simp [execOp, go_sem, e25]
    | 5, ho =>
      simp at ho; subst ho
      have e21 : a'.eval (.tmp 21) = r := hvals 4 _ (by kernel_rfl) rfl
      show ∀ S, _ → (execOp a'.eval _).run _ w' = .ok (.value _) w'
      rintro S ⟨la2, ne2, ha2, hn2, hc2, oa2, on2, oc2, fi2, ga2, gn2, gc2, pa2, pn2, pc2, rfl, _⟩
      try simp only [exT] at e21
      generalize a'.eval = ρ at *
      simp [execOp, go_sem, e21, exT]
    | 6, ho =>
      simp at ho; subst ho
      have e21 : a'.eval (.tmp 21) = r := hvals 4 _ (by kernel_rfl) rfl
      show ∀ S, _ → (execOp a'.eval _).run _ w' = .ok (.value _) w'
      rintro S ⟨la2, ne2, ha2, hn2, hc2, oa2, on2, oc2, fi2, ga2, gn2, gc2, pa2, pn2, pc2, rfl, _⟩
      try simp only [exT] at e21
      generalize a'.eval = ρ at *
      simp [execOp, go_sem, e21, exT]
    | 7, ho =>
      simp at ho; subst ho
      have e21 : a'.eval (.tmp 21) = r := hvals 4 _ (by kernel_rfl) rfl
      show ∀ S, _ → (execOp a'.eval _).run _ w' = .ok (.value _) w'
      rintro S ⟨la2, ne2, ha2, hn2, hc2, oa2, on2, oc2, fi2, ga2, gn2, gc2, pa2, pn2, pc2, rfl, _⟩
      try simp only [exT] at e21
      generalize a'.eval = ρ at *
      simp [execOp, go_sem, e21, exT]
    | 8, ho =>
      simp at ho; subst ho
      show (execOp a'.eval _).run _ w' = .ok (.value _) _
      generalize a'.eval = ρ at *
      simp [execOp, go_sem]
    | 9, ho =>
      simp at ho; subst ho
      have e26 : a'.eval (.tmp 26) = (exT 0) r := hvals 5 _ (by kernel_rfl) rfl
      show ∀ S, _ → ∀ t z g C, _ → _ → _ → _ → ∃ w'', (execOp a'.eval _).run _ w' = .ok .skip w'' ∧ _
      rintro S ⟨la2, ne2, ha2, hn2, hc2, oa2, on2, oc2, fi2, ga2, gn2, gc2, pa2, pn2, pc2, rfl, _⟩ t z g C hz hC hs (eb : a'.eval (.tmp 4) = _)
      cases hz
      obtain ⟨u0, u1, u2, u3, u4, u5, u6, q0, q1, q2, q3, q4, q5, q6⟩ := track_cells7 hC hs
      have p0 := hC.free 0
      have p1 := hC.free 1
      have p2 := hC.free 2
      have p3 := hC.free 3
      have p4 := hC.free 4
      have p5 := hC.free 5
      have p6 := hC.free 6
      obtain ⟨m1, m2, m3⟩ := track_set7 hC hs (.int .i64 la2) (.int .i64 ne2) (.slice ha2 hn2 hc2) (.slice oa2 on2 oc2) (.int .i64 fi2) (.slice ga2 gn2 gc2) (.slice pa2 pn2 pc2)
      simp only [exT] at e26
      generalize a'.eval = ρ at *
      have hB := seven_below (A := g) (Below.refl 0 w') (Nat.zero_le g) (.int .i64 la2) (.int .i64 ne2) (.slice ha2 hn2 hc2) (.slice oa2 on2 oc2) (.int .i64 fi2) (.slice ga2 gn2 gc2) (.slice pa2 pn2 pc2)
      refine ⟨_, ?_, m1, m2, rfl, m3, hB.os, hB.tape, hB.output⟩
      clear m1 m2 m3 hB
      simp [execOp, go_sem, e26, eb, q0, q1, q2, q3, q4, q5, q6, p0, p1, p2, p3, p4, p5, p6]
    | 10, ho =>
      simp at ho; subst ho
      have e27 : a'.eval (.tmp 27) = (exT 1) r := hvals 6 _ (by kernel_rfl) rfl
      show ∀ S, _ → (execOp a'.eval _).run _ w' = .ok (.value _) w'
      rintro S ⟨la2, ne2, ha2, hn2, hc2, oa2, on2, oc2, fi2, ga2, gn2, gc2, pa2, pn2, pc2, rfl, _⟩
      try simp only [exT] at e27
      generalize a'.eval = ρ at *
      simp [execOp, go_sem, e27, exT]
    | 11, ho =>
      simp at ho; subst ho
      have e28 : a'.eval (.tmp 28) = (exT 2) r := hvals 7 _ (by kernel_rfl) rfl
      show ∀ S, _ → (execOp a'.eval _).run _ w' = .ok (.value _) w'
      rintro S ⟨la2, ne2, ha2, hn2, hc2, oa2, on2, oc2, fi2, ga2, gn2, gc2, pa2, pn2, pc2, rfl, _⟩
      try simp only [exT] at e28
      generalize a'.eval = ρ at *
      simp [execOp, go_sem, e28, exT]
    | i + 12, ho => simp at ho
  case fin =>
    rintro r gs Sr W hb ⟨la2, ne2, ha2, hn2, hc2, oa2, on2, oc2, fi2, ga2, gn2, gc2, pa2, pn2, pc2, rfl, h1, h2⟩ hS hbox hap
    obtain ⟨p1, p2, C, p3, p4⟩ := hbox 8 _ _ (by decide) rfl
    have p5 := p4 9 _ (by decide) rfl
    subst p5
    have KP2 : Hid (Blk W (gs 8) #[.int .i64 la2, .int .i64 ne2, .slice ha2 hn2 hc2, .slice oa2 on2 oc2, .int .i64 fi2, .slice ga2 gn2 gc2, .slice pa2 pn2 pc2] 61) := p3
    simp only [putK, Kd.out, exT, Act.put, List.setIfInBounds_toArray, List.set_cons_succ, List.set_cons_zero, List.getElem?_toArray, List.getElem?_cons_zero, List.getElem?_cons_succ, Option.getD_some]
    obtain ⟨bq2, hbq⟩ : ∃ p, p = gs 8 := ⟨_, rfl⟩
    rw [← hbq] at KP2 p1
    rw [← hbq]
    have BW2 : Hid (Below w.heap.size w W) := BW1.out.trans (hb.mono BW1.out.size)
    have G2 : Hid (la2 = tb2.last ∧ ne2 = tb2.next ∧ fi2 = tb2.first ∧ gn2 = tb2.L.length) := h1
    have TR2 : Hid (TrIn (fun _ => True) W (.slice ha2 hn2 hc2) (.slice oa2 on2 oc2) (.slice ga2 gn2 gc2) (.slice pa2 pn2 pc2) tb2) := h2.mono fun _ _ _ => trivial
    have hbW2 := hb
    clear hbq h1 h2 hS hbox hap p2 p3 p4 hb
    have HF3 : Hid (∀ W : World, TrIn (fun _ => True) W (.slice ha2 hn2 hc2) (.slice oa2 on2 oc2) (.slice ga2 gn2 gc2) (.slice pa2 pn2 pc2) tb2 → Calls Tryz.prog 23 #[.agg #[.int .i64 la2, .int .i64 ne2, .slice ha2 hn2 hc2, .slice oa2 on2 oc2, .int .i64 fi2, .slice ga2 gn2 gc2, .slice pa2 pn2 pc2], .string (ba bb3)] W fun e w' => ∃ la3 ne3 ha3 hn3 hc3 oa3 on3 oc3 fi3 ga3 gn3 gc3 pa3 pn3 pc3, e = .returned (.tuple #[.agg #[.int .i64 la3, .int .i64 ne3, .slice ha3 hn3 hc3, .slice oa3 on3 oc3, .int .i64 fi3, .slice ga3 gn3 gc3, .slice pa3 pn3 pc3], .int .i64 2, .int .i64 0]) ∧ Hid (la3 = tb3.last ∧ ne3 = tb3.next ∧ fi3 = tb3.first ∧ gn3 = tb3.L.length) ∧ Hid (TrIn (fun g => W.heap.size ≤ g) w' (.slice ha3 hn3 hc3) (.slice oa3 on3 oc3) (.slice ga3 gn3 gc3) (.slice pa3 pn3 pc3) tb3) ∧ Below W.heap.size W w') := fun W hT => begFeed tb2 tb3 bb3 2 0 _ _ _ _ _ _ _ _ W HE3.out G2.out.1 G2.out.2.1 G2.out.2.2.1 hT
    have HD : Hid (∀ W : World, TrIn (fun _ => True) W (.slice ha2 hn2 hc2) (.slice oa2 on2 oc2) (.slice ga2 gn2 gc2) (.slice pa2 pn2 pc2) tb2 → Calls Tryz.prog 24 #[.agg #[.int .i64 la2, .int .i64 ne2, .slice ha2 hn2 hc2, .slice oa2 on2 oc2, .int .i64 fi2, .slice ga2 gn2 gc2, .slice pa2 pn2 pc2]] W fun e w' => ∃ la4 ne4 ha4 hn4 hc4 oa4 on4 oc4 fi4 ga4 gn4 gc4 pa4 pn4 pc4, e = .returned (.tuple #[.agg #[.int .i64 la4, .int .i64 ne4, .slice ha4 hn4 hc4, .slice oa4 on4 oc4, .int .i64 fi4, .slice ga4 gn4 gc4, .slice pa4 pn4 pc4], .int .i64 1, .int .i64 0]) ∧ Hid (la4 = tb4.last ∧ ne4 = tb4.next ∧ fi4 = tb4.first ∧ gn4 = tb4.L.length) ∧ Hid (TrIn (fun g => W.heap.size ≤ g) w' (.slice ha4 hn4 hc4) (.slice oa4 on4 oc4) (.slice ga4 gn4 gc4) (.slice pa4 pn4 pc4) tb4) ∧ Below W.heap.size W w') := fun W hT => begDrain tb2 tb4 1 0 _ _ _ _ _ _ _ _ W HE4.out G2.out.1 G2.out.2.1 G2.out.2.2.1 hT
    clear HE3 HE4 HF2 KP1 TR1 BW1 G1 hbW2 HB2
    go_wp2_with fail
    refine region_main (by kernel_rfl) (by kernel_rfl) [.quiet (.agg #[.int .i64 la2, .int .i64 ne2, .slice ha2 hn2 hc2, .slice oa2 on2 oc2, .int .i64 fi2, .slice ga2 gn2 gc2, .slice pa2 pn2 pc2]), .qcall (.agg #[.int .i64 0, .int .i64 7, .bool true, .bool true, .bool true, .string ⟨#[98]⟩]), .qcall (.string (ba bb3)), .main, .fin (fun r => r), .fin (exT 0), .fin (exT 1), .fin (exT 2), .box 61 #[.int .i64 0, .int .i64 0, .slice none 0 0, .slice none 0 0, .int .i64 0, .slice none 0 0, .slice none 0 0], .put 8 (fun r => aggC (exT 0 r)), .fin (exT 1), .fin (exT 2)] 3 (by kernel_rfl)
      (fun S r w' => ∃ la3 ne3 ha3 hn3 hc3 oa3 on3 oc3 fi3 ga3 gn3 gc3 pa3 pn3 pc3, r = .tuple #[.agg #[.int .i64 la3, .int .i64 ne3, .slice ha3 hn3 hc3, .slice oa3 on3 oc3, .int .i64 fi3, .slice ga3 gn3 gc3, .slice pa3 pn3 pc3], .int .i64 2, .int .i64 0] ∧ (la3 = tb3.last ∧ ne3 = tb3.next ∧ fi3 = tb3.first ∧ gn3 = tb3.L.length) ∧ TrIn S w' (.slice ha3 hn3 hc3) (.slice oa3 on3 oc3) (.slice ga3 gn3 gc3) (.slice pa3 pn3 pc3) tb3) ?loc ?step ?fin
    case loc =>
      rintro S r w1 w3 ⟨la3, ne3, ha3, hn3, hc3, oa3, on3, oc3, fi3, ga3, gn3, gc3, pa3, pn3, pc3, rfl, h1, h2⟩ hs hsame
      exact ⟨la3, ne3, ha3, hn3, hc3, oa3, on3, oc3, fi3, ga3, gn3, gc3, pa3, pn3, pc3, rfl, h1, h2.to ⟨hs, fun g hg hS => hsame g hS hg⟩ (fun _ _ h => h)⟩
    case step =>
      intro i o ho a' w' r hb hfree hvals
      have f4 : a'.eval (.tmp 4) = .pointer (some ⟨bq2, 0, none⟩) := (hfree 4 (by kernel_rfl)).trans rfl
      obtain ⟨y0, y1, y2, y3, y4, y5, y6⟩ := (KP2.out.below hb KP2.out.lt).sevenc
      match i, ho with
      | 0, ho =>
        simp at ho; subst ho
        show (execOp a'.eval _).run _ w' = .ok (.value _) w'
        generalize a'.eval = ρ at *
        simp [execOp, go_sem, f4, y0, y1, y2, y3, y4, y5, y6]
      | 1, ho =>
        simp at ho; subst ho
        have ef : a'.eval (.func 79) = .func (.func 79) #[] #[] := rfl
        have ec : ∀ v, a'.eval (.const v) = v := fun _ => rfl
        show ∃ f args, (execOp a'.eval _).run _ w' = .ok (.enter f args) w' ∧ _
        generalize a'.eval = ρ at *
        exact ⟨79, #[.int .i64 0, .int .i64 7, .string ⟨#[98]⟩], by simp [execOp, go_sem, ef, ec], HW.out 0 7 ⟨#[98]⟩ w'⟩
      | 2, ho =>
        simp at ho; subst ho
        have e31 : a'.eval (.tmp 31) = .agg #[.int .i64 0, .int .i64 7, .bool true, .bool true, .bool true, .string ⟨#[98]⟩] := hvals 1 _ (by kernel_rfl) rfl
        have ef : a'.eval (.func 78) = .func (.func 78) #[] #[] := rfl
        show ∃ f args, (execOp a'.eval _).run _ w' = .ok (.enter f args) w' ∧ _
        generalize a'.eval = ρ at *
        exact ⟨78, #[.agg #[.int .i64 0, .int .i64 7, .bool true, .bool true, .bool true, .string ⟨#[98]⟩]], by simp [execOp, go_sem, e31, ef], HB3.out w'⟩
      | 3, ho =>
        simp at ho; subst ho
        have e30 : a'.eval (.tmp 30) = .agg #[.int .i64 la2, .int .i64 ne2, .slice ha2 hn2 hc2, .slice oa2 on2 oc2, .int .i64 fi2, .slice ga2 gn2 gc2, .slice pa2 pn2 pc2] := hvals 0 _ (by kernel_rfl) rfl
        have e32 : a'.eval (.tmp 32) = .string (ba bb3) := hvals 2 _ (by kernel_rfl) rfl
        have ef : a'.eval (.func 23) = .func (.func 23) #[] #[] := rfl
        show ∃ f args, (execOp a'.eval _).run _ w' = .ok (.enter f args) w' ∧ _
        generalize a'.eval = ρ at *
        refine ⟨23, #[.agg #[.int .i64 la2, .int .i64 ne2, .slice ha2 hn2 hc2, .slice oa2 on2 oc2, .int .i64 fi2, .slice ga2 gn2 gc2, .slice pa2 pn2 pc2], .string (ba bb3)], by simp [execOp, go_sem, e30, e32, ef], ?_⟩
        refine (HF3.out w' (TR2.out.below hb)).mono ?_
        rintro e w'' ⟨la3, ne3, ha3, hn3, hc3, oa3, on3, oc3, fi3, ga3, gn3, gc3, pa3, pn3, pc3, rfl, q1, q2, q3⟩
        exact ⟨_, rfl, ⟨la3, ne3, ha3, hn3, hc3, oa3, on3, oc3, fi3, ga3, gn3, gc3, pa3, pn3, pc3, rfl, q1.out, q2.out.mono fun g hl hg => ⟨hl, .inr hg⟩⟩, q3⟩
      | 4, ho =>
        simp at ho; subst ho
        have e33 : a'.eval (.tmp 33) = r := hvals 3 _ (by kernel_rfl) rfl
        show ∀ S, _ → (execOp a'.eval _).run _ w' = .ok (.value _) w'
        rintro S ⟨la3, ne3, ha3, hn3, hc3, oa3, on3, oc3, fi3, ga3, gn3, gc3, pa3, pn3, pc3, rfl, _⟩
        try simp only [exT] at e33
        generalize a'.eval = ρ at *
        simp [execOp, go_sem, e33]
      | 5, ho =>
        simp at ho; subst ho
        have e29 : a'.eval (.tmp 29) = r := hvals 4 _ (by kernel_rfl) rfl
        show ∀ S, _ → (execOp a'.eval _).run _ w' = .ok (.value _) w'
        rintro S ⟨la3, ne3, ha3, hn3, hc3, oa3, on3, oc3, fi3, ga3, gn3, gc3, pa3, pn3, pc3, rfl, _⟩
        try simp only [exT] at e29
        generalize a'.eval = ρ at *
        simp [execOp, go_sem, e29, exT]
      | 6, ho =>
        simp at ho; subst ho
        have e29 : a'.eval (.tmp 29) = r := hvals 4 _ (by kernel_rfl) rfl
        show ∀ S, _ → (execOp a'.eval _).run _ w' = .ok (.value _) w'
        rintro S ⟨la3, ne3, ha3, hn3, hc3, oa3, on3, oc3, fi3, ga3, gn3, gc3, pa3, pn3, pc3, rfl, _⟩
        try simp only [exT] at e29
        generalize a'.eval = ρ at *
        simp [execOp, go_sem, e29, exT]
      | 7, ho =>
        simp at ho; subst ho
        have e29 : a'.eval (.tmp 29) = r := hvals 4 _ (by kernel_rfl) rfl
        show ∀ S, _ → (execOp a'.eval _).run _ w' = .ok (.value _) w'
        rintro S ⟨la3, ne3, ha3, hn3, hc3, oa3, on3, oc3, fi3, ga3, gn3, gc3, pa3, pn3, pc3, rfl, _⟩
        try simp only [exT] at e29
        generalize a'.eval = ρ at *
        simp [execOp, go_sem, e29, exT]
      | 8, ho =>
        simp at ho; subst ho
        show (execOp a'.eval _).run _ w' = .ok (.value _) _
        generalize a'.eval = ρ at *
        simp [execOp, go_sem]
      | 9, ho =>
        simp at ho; subst ho
        have e34 : a'.eval (.tmp 34) = (exT 0) r := hvals 5 _ (by kernel_rfl) rfl
        show ∀ S, _ → ∀ t z g C, _ → _ → _ → _ → ∃ w'', (execOp a'.eval _).run _ w' = .ok .skip w'' ∧ _
        rintro S ⟨la3, ne3, ha3, hn3, hc3, oa3, on3, oc3, fi3, ga3, gn3, gc3, pa3, pn3, pc3, rfl, _⟩ t z g C hz hC hs (eb : a'.eval (.tmp 7) = _)
        cases hz
        obtain ⟨u0, u1, u2, u3, u4, u5, u6, q0, q1, q2, q3, q4, q5, q6⟩ := track_cells7 hC hs
        have p0 := hC.free 0
        have p1 := hC.free 1
        have p2 := hC.free 2
        have p3 := hC.free 3
        have p4 := hC.free 4
        have p5 := hC.free 5
        have p6 := hC.free 6
        obtain ⟨m1, m2, m3⟩ := track_set7 hC hs (.int .i64 la3) (.int .i64 ne3) (.slice ha3 hn3 hc3) (.slice oa3 on3 oc3) (.int .i64 fi3) (.slice ga3 gn3 gc3) (.slice pa3 pn3 pc3)
        simp only [exT] at e34
        generalize a'.eval = ρ at *
        have hB := seven_below (A := g) (Below.refl 0 w') (Nat.zero_le g) (.int .i64 la3) (.int .i64 ne3) (.slice ha3 hn3 hc3) (.slice oa3 on3 oc3) (.int .i64 fi3) (.slice ga3 gn3 gc3) (.slice pa3 pn3 pc3)
        refine ⟨_, ?_, m1, m2, rfl, m3, hB.os, hB.tape, hB.output⟩
        clear m1 m2 m3 hB
        simp [execOp, go_sem, e34, eb, q0, q1, q2, q3, q4, q5, q6, p0, p1, p2, p3, p4, p5, p6]
      | 10, ho =>
        simp at ho; subst ho
        have e35 : a'.eval (.tmp 35) = (exT 1) r := hvals 6 _ (by kernel_rfl) rfl
        show ∀ S, _ → (execOp a'.eval _).run _ w' = .ok (.value _) w'
        rintro S ⟨la3, ne3, ha3, hn3, hc3, oa3, on3, oc3, fi3, ga3, gn3, gc3, pa3, pn3, pc3, rfl, _⟩
        try simp only [exT] at e35
        generalize a'.eval = ρ at *
        simp [execOp, go_sem, e35, exT]
      | 11, ho =>
        simp at ho; subst ho
        have e36 : a'.eval (.tmp 36) = (exT 2) r := hvals 7 _ (by kernel_rfl) rfl
        show ∀ S, _ → (execOp a'.eval _).run _ w' = .ok (.value _) w'
        rintro S ⟨la3, ne3, ha3, hn3, hc3, oa3, on3, oc3, fi3, ga3, gn3, gc3, pa3, pn3, pc3, rfl, _⟩
        try simp only [exT] at e36
        generalize a'.eval = ρ at *
        simp [execOp, go_sem, e36, exT]
      | i + 12, ho => simp at ho
    case fin =>
      rintro r gs Sr W hb ⟨la3, ne3, ha3, hn3, hc3, oa3, on3, oc3, fi3, ga3, gn3, gc3, pa3, pn3, pc3, rfl, h1, h2⟩ hS hbox hap
      obtain ⟨p1, p2, C, p3, p4⟩ := hbox 8 _ _ (by decide) rfl
      have p5 := p4 9 _ (by decide) rfl
      subst p5
      have KP3 : Hid (Blk W (gs 8) #[.int .i64 la3, .int .i64 ne3, .slice ha3 hn3 hc3, .slice oa3 on3 oc3, .int .i64 fi3, .slice ga3 gn3 gc3, .slice pa3 pn3 pc3] 61) := p3
      simp only [putK, Kd.out, exT, Act.put, List.setIfInBounds_toArray, List.set_cons_succ, List.set_cons_zero, List.getElem?_toArray, List.getElem?_cons_zero, List.getElem?_cons_succ, Option.getD_some]
      obtain ⟨bq3, hbq⟩ : ∃ p, p = gs 8 := ⟨_, rfl⟩
      rw [← hbq] at KP3 p1
      rw [← hbq]
      have BW3 : Hid (Below w.heap.size w W) := BW2.out.trans (hb.mono BW2.out.size)
      have G3 : Hid (la3 = tb3.last ∧ ne3 = tb3.next ∧ fi3 = tb3.first ∧ gn3 = tb3.L.length) := h1
      have TR3 : Hid (TrIn (fun _ => True) W (.slice ha3 hn3 hc3) (.slice oa3 on3 oc3) (.slice ga3 gn3 gc3) (.slice pa3 pn3 pc3) tb3) := h2.mono fun _ _ _ => trivial
      have hbW3 := hb
      clear hbq h1 h2 hS hbox hap p2 p3 p4 hb
      have KP2' : Hid (Blk W bq2 #[.int .i64 la2, .int .i64 ne2, .slice ha2 hn2 hc2, .slice oa2 on2 oc2, .int .i64 fi2, .slice ga2 gn2 gc2, .slice pa2 pn2 pc2] 61) := KP2.out.below hbW3 KP2.out.lt
      have TR2' : Hid (TrIn (fun _ => True) W (.slice ha2 hn2 hc2) (.slice oa2 on2 oc2) (.slice ga2 gn2 gc2) (.slice pa2 pn2 pc2) tb2) := TR2.out.below hbW3
      clear KP2 TR2 hbW3 BW2 HF3 HB3 HW
      have HC : Hid (∀ U : World, TrIn (fun _ => True) U (.slice ha3 hn3 hc3) (.slice oa3 on3 oc3) (.slice ga3 gn3 gc3) (.slice pa3 pn3 pc3) tb3 → Calls Tryz.prog 29 #[.agg #[.int .i64 la3, .int .i64 ne3, .slice ha3 hn3 hc3, .slice oa3 on3 oc3, .int .i64 fi3, .slice ga3 gn3 gc3, .slice pa3 pn3 pc3]] U fun e w' => e = .returned (.int .i64 0) ∧ Below U.heap.size U w') := fun U hT => by
        have q := trkCheck_any _ tb3 _ _ _ _ U hT
        rw [← G3.out.1, ← G3.out.2.1, ← G3.out.2.2.1, HK.out.1] at q
        exact q
      have e1 : la3 = 131073 := G3.out.1.trans HK.out.2.1
      have e2 : gn3 = 2 := G3.out.2.2.2.trans HK.out.2.2.1
      have hk4 : Hid (tb4.L.length = 1) := HK.out.2.2.2
      clear G3 HK
      subst e1 e2
      obtain ⟨y0, y1, y2, y3, y4, y5, y6⟩ := KP2'.out.sevenc
      go_wp2_with fail
      refine (HD.out W TR2'.out).mono ?_
      rintro e w5 ⟨la4, ne4, ha4, hn4, hc4, oa4, on4, oc4, fi4, ga4, gn4, gc4, pa4, pn4, pc4, rfl, G4, _, c5⟩
      have e1 : gn4 = 1 := G4.out.2.2.2.trans hk4.out
      subst e1
      have KP3' : Hid (Blk w5 bq3 #[.int .i64 131073, .int .i64 ne3, .slice ha3 hn3 hc3, .slice oa3 on3 oc3, .int .i64 fi3, .slice ga3 2 gc3, .slice pa3 pn3 pc3] 61) := KP3.out.below c5 KP3.out.lt
      have TR3' : Hid (TrIn (fun _ => True) w5 (.slice ha3 hn3 hc3) (.slice oa3 on3 oc3) (.slice ga3 2 gc3) (.slice pa3 pn3 pc3) tb3) := TR3.out.below c5
      have BW5 : Hid (Below w.heap.size w w5) := BW3.out.trans (c5.mono BW3.out.size)
      clear y0 y1 y2 y3 y4 y5 y6 HD G2 G4 hk4 c5 KP2' TR2' KP3 TR3 BW3
      obtain ⟨V5, hV5⟩ : ∃ V, V = w5.alloc (.cells #[.int .i64 la4, .int .i64 ne4, .slice ha4 hn4 hc4, .slice oa4 on4 oc4, .int .i64 fi4, .slice ga4 1 gc4, .slice pa4 pn4 pc4] 61) := ⟨_, rfl⟩
      obtain ⟨bq5, hbq5⟩ : ∃ b, b = w5.heap.size := ⟨_, rfl⟩
      have KP5 : Hid (Blk V5 bq5 #[.int .i64 la4, .int .i64 ne4, .slice ha4 hn4 hc4, .slice oa4 on4 oc4, .int .i64 fi4, .slice ga4 1 gc4, .slice pa4 pn4 pc4] 61) := by rw [hbq5]; exact Blk.newE hV5
      have KP3 : Hid (Blk V5 bq3 #[.int .i64 131073, .int .i64 ne3, .slice ha3 hn3 hc3, .slice oa3 on3 oc3, .int .i64 fi3, .slice ga3 2 gc3, .slice pa3 pn3 pc3] 61) := by rw [hV5]; exact KP3'.out.below ((Below.refl _ _).alloc (Nat.le_refl _) _) KP3'.out.lt
      have TR3 : Hid (TrIn (fun _ => True) V5 (.slice ha3 hn3 hc3) (.slice oa3 on3 oc3) (.slice ga3 2 gc3) (.slice pa3 pn3 pc3) tb3) := by rw [hV5]; exact TR3'.out.to (SameOn.alloc _) fun _ _ h => h
      have BV5 : Hid (Below w.heap.size w V5) := by rw [hV5]; exact BW5.out.alloc BW5.out.size _
      obtain ⟨x0, x1, x2, x3, x4, x5, x6⟩ := KP3'.out.sevenc
      have hb3 := KP3'.out.lt
      clear KP3' TR3' BW5
      go_wp2_with fail
      rw [← hV5]
      try rw [← hbq5]
      clear hV5 hbq5 x0 x1 x2 x3 x4 x5 x6 hb3
      refine (HC.out V5 TR3.out).mono ?_
      rintro e w6 ⟨rfl, c6⟩
      have BW6 : Hid (Below w.heap.size w w6) := BV5.out.trans (c6.mono BV5.out.size)
      obtain ⟨x0, x1, x2, x3, x4, x5, x6⟩ := (KP3.out.below c6 KP3.out.lt).sevenc
      obtain ⟨y0, y1, y2, y3, y4, y5, y6⟩ := (KP5.out.below c6 KP5.out.lt).sevenc
      clear c6 BV5 KP3 KP5 TR3 HC
      go_wp2
      go_ret
      exact ⟨rfl, BW6.out⟩

end Go.Proofs.YtnpaejknoipicafGreat

namespace Go.Proofs.YtnpaejknoipicafGreat
open Go.RowKit

theorem gchk_first {l : List Fr} (h : gchk l = 0) : 0 < l.length ∧ l.length ≤ 6 ∧ (frAt l 0).key = true := by
  obtain ⟨h1, h2, h3⟩ := gchk_zero.1 h
  refine ⟨h1, h2, ?_⟩
  have := (h3 0 h1).2
  simpa [inPl] using this
theorem FrsIn.first {S : Nat → Prop} {w : World} {ao : Option Addr} {n c : Nat} {l : List Fr} (h : FrsIn S w (.slice ao n c) l) (h0 : 0 < l.length) : ∃ b off, ao = some ⟨b, off, none⟩ ∧ w.cell? ⟨b, off, none⟩ = some (.int .i64 (frAt l 0).time) ∧ w.cell? ⟨b, off + 1, none⟩ = some (.bool (frAt l 0).key) := by
  obtain ⟨ao', c', e, _, _, hc⟩ := h
  injection e with e1 _ _
  subst e1
  obtain ⟨b, off, e, _, _, pv, c0, c1, _⟩ := hc 0 h0
  exact ⟨b, off, e, by simpa using c0, by simpa using c1⟩
theorem grAt_mem {L : List (List Fr)} {k : Nat} (h : k < L.length) : grAt L k ∈ L := by
  unfold grAt; rw [List.getElem?_eq_getElem h]; exact List.getElem_mem _

end Go.Proofs.YtnpaejknoipicafGreat

namespace Go.Proofs.YtnpaejknoipicafGreat
open Go.RowKit Go.Sort

set_option maxHeartbeats 2000000 in
theorem refCheckGroup_any (S : Nat → Prop) (v : Value) (l : List Fr) (w : World) (hv : FrsIn S w v l) :
    Calls Tryz.prog 51 #[.agg #[v]] w fun e w' => e = .returned (.int .i64 (gchk l)) ∧ Below w.heap.size w w' := by
  obtain ⟨ao, c, hva, h1, h2, hc⟩ := hv
  have HC : Hid (∀ k, k < l.length → ∃ b off, ao = some ⟨b, off, none⟩ ∧ b < w.heap.size ∧ S b ∧ At3In S w b (off + k * 3) (l[k]?.getD Fr.zero)) := hc
  obtain ⟨n, hn⟩ : ∃ n, n = l.length := ⟨_, rfl⟩
  have HN : Hid (n = l.length) := hn
  obtain ⟨G, hG⟩ : ∃ G, G = gchk l := ⟨_, rfl⟩
  have HG : Hid (G = if n = 0 then 5 else if 6 < n then 2 else goN (gerr l) n 0) := by show _ = _; rw [hG, hn]; rfl
  rw [← hn] at hva h1
  rw [← hG]
  clear hc hn hG
  subst hva
  by_cases h0 : n = 0
  · have hg : G = 5 := by rw [HG.out, if_pos h0]
    rw [hg]
    subst h0
    go_enter Tryz.func51, Tryz.ntmps51
    go_wp2
    go_ret
    exact ⟨rfl, by go_grown⟩
  have h0i : ((n : Int) == 0) = false := by simpa using h0
  by_cases h6 : 6 < n
  · have hg : G = 2 := by rw [HG.out, if_neg h0, if_pos h6]
    rw [hg]
    go_enter Tryz.func51, Tryz.ntmps51
    go_wp2
    go_ret
    exact ⟨rfl, by go_grown⟩
  have HG2 : Hid (G = goN (gerr l) n 0) := by show _ = _; rw [HG.out, if_neg h0, if_neg h6]
  have hn6 : n ≤ 6 := by omega
  clear HG h0 h6
  go_enter Tryz.func51, Tryz.ntmps51
  go_wp2_with fail
  go_loopw [3] (fun i wr => ∃ k : Nat, k ≤ n ∧ i = .int .i64 k ∧ Hid (∀ j, j < k → gerr l j = 0) ∧ Hid (Blk wr w.heap.size #[.slice ao n c] 25) ∧ Hid (Below w.heap.size w wr))
    (fun i _ => n - (intOf i).toNat)
  case atStart => exact ⟨0, Nat.zero_le _, rfl, (show ∀ j, j < 0 → _ from fun j hj => absurd hj (Nat.not_lt_zero _)), Blk.new w _ _, (Below.refl _ w).alloc (Nat.le_refl _) _⟩
  case round =>
    obtain ⟨k, hk, rfl, HK, KB, HB⟩ := hrel
    have b0 := KB.out.one
    by_cases hlt : k < n
    · obtain ⟨b, off, hao, hb, _, pv, c0, c1, c2, hp⟩ := HC.out k (by rw [← HN.out]; exact hlt)
      subst hao
      have d0 := (HB.out.cell (p := ⟨b, off + k * 3, none⟩) hb).trans c0
      have d1 := (HB.out.cell (p := ⟨b, off + k * 3 + 1, none⟩) hb).trans c1
      have d2 := (HB.out.cell (p := ⟨b, off + k * 3 + 2, none⟩) hb).trans c2
      obtain ⟨f, hf⟩ : ∃ f, f = frAt l k := ⟨_, rfl⟩
      rw [show (l[k]?.getD Fr.zero) = f from hf.symm] at c0 c1 d0 d1 hp
      obtain ⟨pa, pc, ep⟩ := hp.1.len
      obtain ⟨pn, hpn⟩ : ∃ pn, pn = f.parts.length := ⟨_, rfl⟩
      rw [← hpn] at ep
      subst ep
      obtain ⟨ft, fk, fp⟩ := f
      simp only at c0 c1 d0 d1 d2 hp hpn
      obtain ⟨ck, hck⟩ : ∃ ck, ck = chkF ft fp := ⟨_, rfl⟩
      have HCF : Hid (∀ w' : World, Strs w' (.slice pa pn pc) fp → Calls Tryz.prog 12 #[.agg #[.int .i64 ft, .bool fk, .slice pa pn pc]] w' fun e w'' => e = .returned (.int .i64 ck) ∧ Below w'.heap.size w' w'') := fun w' hs => by rw [hck]; exact refCheckFrame_any ft fk _ fp w' hs hp.2.1
      have HP : Hid (Strs wr (.slice pa pn pc) fp) := hp.1.below HB.out
      have HCK : Hid ((frAt l k).chk = ck) := by show _ = _; rw [← hf, hck]; rfl
      have hlti : (k : Int) < (n : Int) := by omega
      have hbw := KB.out.lt
      have HC0 : Hid (w.cell? ⟨b, off + k * 3, none⟩ = some (.int .i64 ft)) := c0
      have HC1 : Hid (w.cell? ⟨b, off + k * 3 + 1, none⟩ = some (.bool fk)) := c1
      have HF : Hid ((frAt l k).time = ft ∧ (frAt l k).key = fk) := by rw [← hf]; exact ⟨rfl, rfl⟩
      clear c0 c1 c2 hp hf hck hpn
      go_wp2_with fail
      refine (HCF.out _ HP.out).mono ?_
      rintro e w1 ⟨rfl, hb1⟩
      have K1 : Hid (Blk w1 w.heap.size #[.slice (some ⟨b, off, none⟩) n c] 25) := KB.out.below hb1 KB.out.lt
      have BB1 : Hid (Below w.heap.size w w1) := HB.out.trans (hb1.mono HB.out.size)
      clear hb1 d0 d1 d2 b0
      have b1 := K1.out.one
      by_cases hc0 : ck = 0
      · subst hc0
        have d0 := (BB1.out.cell (p := ⟨b, off + k * 3, none⟩) hb).trans HC0.out
        have d1 := (BB1.out.cell (p := ⟨b, off + k * 3 + 1, none⟩) hb).trans HC1.out
        have BAD : Hid (inPl l k = false → G = 4) := fun h => by
          have he : gerr l k = 4 := by unfold gerr; rw [if_pos HCK.out, h]; rfl
          rw [HG2.out, goN_hit n 0 k (Nat.zero_le _) (by omega) (fun j _ hj => HK.out j hj) (by rw [he]; decide), he]
        have GOOD : Hid (inPl l k = true → ∀ j, j < k + 1 → gerr l j = 0) := fun h j hj => by
          by_cases e : j = k
          · subst e; exact gerr_zero.2 ⟨HCK.out, h⟩
          · exact HK.out j (by omega)
        by_cases hk0 : k = 0
        · have hki : ((k : Int) == 0) = true := by simpa using hk0
          have hkd : decide (0 < k) = false := decide_eq_false (by omega)
          have HIP : Hid (inPl l k = fk) := by show _ = _; unfold inPl; rw [if_pos hk0]; exact HF.out.2
          clear hk0
          cases fk
          · have HGE : Hid (G = 4) := BAD.out HIP.out
            go_wp2_with fail
            go_quiet (fail)
            go_wp2
            go_ret
            exact ⟨by rw [HGE.out]; rfl, below_drewN BB1.out _⟩
          · have HGO : Hid (∀ j, j < k + 1 → gerr l j = 0) := GOOD.out HIP.out
            go_wp2_with fail
            go_quiet (fail)
            go_wp2
            go_roundw
            case rel => exact ⟨k + 1, by omega, by go_num, HGO, K1.out, below_drewN BB1.out _⟩
            case measure => simp [intOf]; omega
        · have hki : ((k : Int) == 0) = false := by simpa using hk0
          have hkd : decide (0 < k) = true := decide_eq_true (by omega)
          obtain ⟨b', off', e1, hb', _, pv', t0, _⟩ := HC.out (k - 1) (by rw [← HN.out]; omega)
          injection e1 with e1
          injection e1 with e1 e2
          subst e1 e2
          obtain ⟨k1, hk1⟩ : ∃ k1, k1 = k - 1 := ⟨_, rfl⟩
          rw [← hk1] at t0
          have t1 := (BB1.out.cell (p := ⟨b, off + k1 * 3, none⟩) hb').trans t0
          obtain ⟨tt, htt⟩ : ∃ tt, tt = (frAt l k1).time := ⟨_, rfl⟩
          rw [← htt] at t1
          have hk1i : (k : Int) - 1 = (k1 : Int) := by omega
          have hk1l : (k1 : Int) < (n : Int) := by omega
          have hk1w : IntKind.i64.wrap (k1 : Int) = (k1 : Int) := by rw [IntKind.wrap_i64]; omega
          have HIP : Hid (inPl l k = (!fk && decide (tt ≤ ft))) := by show _ = _; unfold inPl; rw [if_neg hk0, HF.out.1, HF.out.2, htt, hk1]
          clear hk0 hk1 htt t0
          cases fk
          · by_cases hti : ft < tt
            · have HGE : Hid (G = 4) := BAD.out (by rw [HIP.out]; simp; omega)
              go_wp2_with fail
              go_quiet (fail)
              go_wp2
              go_ret
              exact ⟨by rw [HGE.out]; rfl, below_drewN BB1.out _⟩
            · have HGO : Hid (∀ j, j < k + 1 → gerr l j = 0) := GOOD.out (by rw [HIP.out]; simp; omega)
              go_wp2_with fail
              go_quiet (fail)
              go_wp2
              go_roundw
              case rel => exact ⟨k + 1, by omega, by go_num, HGO, K1.out, below_drewN BB1.out _⟩
              case measure => simp [intOf]; omega
          · have HGE : Hid (G = 4) := BAD.out (by rw [HIP.out]; rfl)
            go_wp2_with fail
            go_quiet (fail)
            go_wp2
            go_ret
            exact ⟨by rw [HGE.out]; rfl, below_drewN BB1.out _⟩
      · have HGE : Hid (G = ck) := by
          show _ = _
          have he : gerr l k = ck := by unfold gerr; rw [if_neg (by rw [HCK.out]; exact hc0), HCK.out]
          rw [HG2.out, goN_hit n 0 k (Nat.zero_le _) (by omega) (fun j _ hj => HK.out j hj) (by rw [he]; exact hc0), he]
        go_wp2
        go_ret
        exact ⟨by rw [HGE.out]; rfl, BB1.out⟩
    · have hkl : k = n := by omega
      subst hkl
      have HGE : Hid (G = 0) := by show _ = _; rw [HG2.out]; exact goN_all _ _ (fun j _ hj => HK.out j (by omega))
      go_wp2
      go_ret
      exact ⟨by rw [HGE.out]; rfl, HB.out⟩

set_option maxHeartbeats 2000000 in
theorem sizeOf_any (S : Nat → Prop) (v : Value) (l : List Fr) (w : World) (hv : FrsIn S w v l) (hG : gchk l = 0) :
    Calls Tryz.prog 96 #[.agg #[v]] w fun e w' => e = .returned (.int .i64 (szG l)) ∧ Below w.heap.size w w' := by
  obtain ⟨ao, c, hva, h1, h2, hc⟩ := hv
  have HC : Hid (∀ k, k < l.length → ∃ b off, ao = some ⟨b, off, none⟩ ∧ b < w.heap.size ∧ S b ∧ At3In S w b (off + k * 3) (l[k]?.getD Fr.zero)) := hc
  obtain ⟨n, hn⟩ : ∃ n, n = l.length := ⟨_, rfl⟩
  have HN : Hid (n = l.length) := hn
  obtain ⟨Z, hZ⟩ : ∃ Z, Z = szG l := ⟨_, rfl⟩
  have HZ2 : Hid (Z = szG l) := hZ
  have hg := gchk_zero.1 hG
  rw [← hn] at hva h1
  have hn6 : n ≤ 6 := by rw [hn]; exact hg.2.1
  have HFR : Hid (∀ k, k < n → (frAt l k).chk = 0) := fun k hk => (hg.2.2 k (by rw [← HN.out]; exact hk)).1
  have HLE : Hid (∀ k, k ≤ n → szG (l.take k) ≤ k * 32) := fun k hk => szG_le (fun j hj => fr_szP (hg.2.2 j hj).1) k (by rw [← HN.out]; exact hk)
  rw [← hZ]
  clear hc hn hZ hG hg
  subst hva
  go_enter Tryz.func96, Tryz.ntmps96
  go_wp2_with fail
  go_loopw [3, 4] (fun s i wr => ∃ (k z : Nat), k ≤ n ∧ i = .int .i64 k ∧ s = .int .i64 z ∧ Hid (z = szG (l.take k)) ∧ Hid (Blk wr w.heap.size #[.slice ao n c] 25) ∧ Hid (Below w.heap.size w wr))
    (fun _ i _ => n - (intOf i).toNat)
  case atStart => exact ⟨0, 0, Nat.zero_le _, rfl, rfl, (show 0 = szG (l.take 0) from rfl), Blk.new w _ _, (Below.refl _ w).alloc (Nat.le_refl _) _⟩
  case round =>
    obtain ⟨k, z, hk, rfl, rfl, HZK, KB, HB⟩ := hrel
    have b0 := KB.out.one
    by_cases hlt : k < n
    · obtain ⟨b, off, hao, hb, _, pv, c0, c1, c2, hp⟩ := HC.out k (by rw [← HN.out]; exact hlt)
      subst hao
      have d2 := (HB.out.cell (p := ⟨b, off + k * 3 + 2, none⟩) hb).trans c2
      obtain ⟨f, hf⟩ : ∃ f, f = frAt l k := ⟨_, rfl⟩
      rw [show (l[k]?.getD Fr.zero) = f from hf.symm] at hp
      obtain ⟨po, pc, ep, hpc⟩ := (hp.1.below HB.out).parts
      obtain ⟨pn, hpn⟩ : ∃ pn, pn = f.parts.length := ⟨_, rfl⟩
      have HPC : Hid (∀ j, j < f.parts.length → ∃ b off, po = some ⟨b, off, none⟩ ∧ b < wr.heap.size ∧ wr.cell? ⟨b, off + j, none⟩ = some (.string (f.parts[j]?.getD ByteArray.empty))) := hpc
      have HPN : Hid (pn = f.parts.length) := hpn
      rw [← hpn] at ep
      subst ep
      have hlti : (k : Int) < (n : Int) := by omega
      have hfz := HFR.out k hlt
      rw [← hf] at hfz
      have hp4 : pn ≤ 4 := by rw [hpn]; exact (chkF_zero hfz).2.2.2.1
      have hp8 : ∀ j, j < pn → (f.parts[j]?.getD ByteArray.empty).size ≤ 8 := fun j hj => by
        rw [List.getElem?_eq_getElem (by omega), Option.getD_some]
        exact (chkF_zero hfz).2.2.2.2 _ (List.getElem_mem _)
      have HP8 : Hid (∀ j, j < pn → (f.parts[j]?.getD ByteArray.empty).size ≤ 8) := hp8
      have hz := HLE.out k hk
      rw [← HZK.out] at hz
      have HSU : Hid (szG (l.take (k + 1)) = z + szP f.parts) := by show _ = _; rw [szG_take l k (by rw [← HN.out]; exact hlt), ← HZK.out, hf]
      clear c0 c1 c2 hp hpc hpn hfz hp8 hf
      go_wp2_with fail
      go_loopw [3, 5] (fun s i wi => ∃ (j y : Nat), j ≤ pn ∧ i = .int .i64 j ∧ s = .int .i64 y ∧ Hid (y = z + szP (f.parts.take j)) ∧ Hid (y ≤ z + j * 8) ∧ wr = wi)
        (fun _ i _ => pn - (intOf i).toNat)
      case atStart => exact ⟨0, z, Nat.zero_le _, rfl, rfl, (show z = z + szP (f.parts.take 0) from rfl), (show _ ≤ _ from Nat.le_refl _), rfl⟩
      case round =>
        obtain ⟨j, y, hj, rfl, rfl, HY, HYL, rfl⟩ := hrel
        by_cases hjl : j < pn
        · obtain ⟨b2, off2, hpo, hb2, hct⟩ := HPC.out j (by rw [← HPN.out]; exact hjl)
          obtain ⟨s, hs⟩ : ∃ s, s = f.parts[j]?.getD ByteArray.empty := ⟨_, rfl⟩
          have h8 := HP8.out j hjl
          have HNY : Hid (y + s.size = z + szP (f.parts.take (j + 1))) := by show _ = _; rw [szP_take f.parts j (by rw [← HPN.out]; exact hjl), HY.out, ← hs]; omega
          rw [← hs] at hct h8
          subst hpo
          have hji : (j : Int) < (pn : Int) := by omega
          have hyl := HYL.out
          clear hs
          go_wp2_with fail
          go_roundw
          case rel => exact ⟨j + 1, y + s.size, by omega, by go_num, by go_num, HNY, (show _ ≤ _ by omega), by first | rfl | trivial⟩
          case measure => simp [intOf]; omega
        · have hjn : j = pn := by omega
          subst hjn
          have hyz := HY.out
          rw [HPN.out, List.take_length, ← HSU.out] at hyz
          have HY2 : Hid (y = szG (l.take (k + 1))) := hyz
          clear hyz
          go_wp2_with fail
          go_roundw
          case rel => exact ⟨k + 1, y, by omega, by go_num, rfl, HY2, KB, HB⟩
          case measure => simp [intOf]; omega
    · have hkl : k = n := by omega
      subst hkl
      have HE : Hid (Z = z) := by show _ = _; rw [HZ2.out, HZK.out, HN.out, List.take_length]
      go_wp2
      go_ret
      exact ⟨by rw [HE.out]; rfl, HB.out⟩

set_option maxHeartbeats 1600000 in
theorem sameGroups_any (S S' : Nat → Prop) (u v : Value) (l m : List (List Fr)) (w : World) (hu : GrsIn S w u l) (hv : GrsIn S' w v m) :
    Calls Tryz.prog 64 #[u, v] w fun e w' => e = .returned (.bool (sameGs l m)) ∧ Below w.heap.size w w' := by
  obtain ⟨ao, c, rfl, hl1, hl2, hc⟩ := hu
  obtain ⟨bo, d, rfl, hm1, hm2, hd⟩ := hv
  by_cases hlm : l.length = m.length
  · have HC : Hid (∀ k, k < l.length → ∃ b off, ao = some ⟨b, off, none⟩ ∧ b < w.heap.size ∧ S b ∧ ∃ sv, w.cell? ⟨b, off + k, none⟩ = some sv ∧ FrsIn S w sv (l[k]?.getD [])) := hc
    have HD : Hid (∀ k, k < m.length → ∃ b off, bo = some ⟨b, off, none⟩ ∧ b < w.heap.size ∧ S' b ∧ ∃ sv, w.cell? ⟨b, off + k, none⟩ = some sv ∧ FrsIn S' w sv (m[k]?.getD [])) := hd
    obtain ⟨n, hn⟩ : ∃ n, n = l.length := ⟨_, rfl⟩
    have HN : Hid (n = l.length) := hn
    have HM : Hid (n = m.length) := hn.trans hlm
    rw [← hlm, ← hn]
    rw [← hlm] at hm1
    rw [← hn] at hl1 hm1
    clear hc hd hn hlm
    go_enter Tryz.func64, Tryz.ntmps64
    go_wp2
    go_loopw [5] (fun i wr => ∃ k : Nat, k ≤ n ∧ i = .int .i64 k ∧ Hid (∀ j, j < k → (l[j]?.getD []) = (m[j]?.getD [])) ∧ Hid (Below w.heap.size w wr))
      (fun i _ => n - (intOf i).toNat)
    case atStart => exact ⟨0, Nat.zero_le _, rfl, (show ∀ j, j < 0 → _ from fun j hj => absurd hj (Nat.not_lt_zero _)), Below.refl _ _⟩
    case round =>
      obtain ⟨k, hk, rfl, HK, HB⟩ := hrel
      by_cases hlt : k < n
      · obtain ⟨b, off, rfl, hb, _, sv, c0, hs⟩ := HC.out k (by rw [← HN.out]; exact hlt)
        obtain ⟨b2, off2, rfl, hb2, _, sv2, d0, hs2⟩ := HD.out k (by rw [← HM.out]; exact hlt)
        obtain ⟨x, hx⟩ : ∃ x, x = l[k]?.getD [] := ⟨_, rfl⟩
        obtain ⟨y, hy⟩ : ∃ y, y = m[k]?.getD [] := ⟨_, rfl⟩
        rw [← hx] at hs
        rw [← hy] at hs2
        have HX : Hid (x = l[k]?.getD []) := hx
        have HY : Hid (y = m[k]?.getD []) := hy
        have c1 := (HB.out.cell (p := ⟨b, off + k, none⟩) hb).trans c0
        have d1 := (HB.out.cell (p := ⟨b2, off2 + k, none⟩) hb2).trans d0
        obtain ⟨a1, a2, rfl, _, hxl⟩ := hs.len
        obtain ⟨b3, b4, rfl, _, _⟩ := hs2.len
        have f1 := (hs.below HB.out).frs
        have f2 := (hs2.below HB.out).frs
        obtain ⟨t, ht⟩ : ∃ t, t = sameFs x y := ⟨_, rfl⟩
        have HT : Hid (t = sameFs x y) := ht
        have cF : ∀ d os, Calls Tryz.prog 35 #[.slice a1 x.length a2, .slice b3 y.length b4] (grow (redrawn wr d) os) fun e w'' => e = .returned (.bool t) ∧ ∃ p : Regrown, w'' = grow (redrawn wr p.d) p.os := fun d os =>
          Calls.regrown_of (by
            rw [ht]
            exact sameFrames_any _ _ _ _ _ (f1.below (below_regrown wr d os)) (f2.below (below_regrown wr d os)) hxl)
        have z0 := cell_regrown c1
        have q0 := cell_regrown d1
        have hlti : (k : Int) < (n : Int) := by omega
        clear hx hy ht c0 c1 d0 d1 hs hs2 f1 f2
        go_wp2
        refine wp_region_quiet_below (by kernel_rfl) (by kernel_rfl) ?_
        repeat (quiet_step (exact cF _ _))
        refine wpQuiet_nil ?_
        intro _ hw'
        obtain ⟨⟨dq, osq⟩, hw''⟩ := hw'
        subst hw''
        have bR := below_regrown wr dq osq
        obtain ⟨V, hV⟩ : ∃ V, V = grow (redrawn wr dq) osq := ⟨_, rfl⟩
        rw [← hV] at bR
        have bV : Hid (Below w.heap.size w V) := HB.out.trans (bR.mono HB.out.size)
        rw [← hV]
        clear hV bR cF q0 z0
        cases t
        · go_wp2
          go_ret
          exact ⟨by rw [sameGs_at (k := k) (fun e => by rw [← HX.out, ← HY.out] at e; have := HT.out; rw [e] at this; simp [sameFs] at this)]; rfl, bV.out⟩
        · go_wp2
          go_roundw
          case rel =>
            refine ⟨k + 1, by omega, by go_num, (show ∀ j, j < k + 1 → _ from fun j hj => ?_), bV.out⟩
            by_cases e : j = k
            · subst e
              rw [← HX.out, ← HY.out]; exact of_decide_eq_true HT.out.symm
            · exact HK.out j (by omega)
          case measure => simp [intOf]; omega
      · have hkl : k = n := by omega
        subst hkl
        go_wp2
        go_ret
        exact ⟨by rw [sameGs_ext (HN.out.symm.trans HM.out) (fun j hj => HK.out j (by rw [HN.out]; exact hj))]; rfl, HB.out⟩
  · have hlm2 : ((l.length : Int) != (m.length : Int)) = true := by simp; omega
    have HLM : Hid (¬ l.length = m.length) := hlm
    clear hlm
    go_enter Tryz.func64, Tryz.ntmps64
    go_wp2
    go_ret
    exact ⟨by rw [sameGs_len HLM.out]; rfl, Below.refl _ _⟩

end Go.Proofs.YtnpaejknoipicafGreat

namespace Go.Proofs.YtnpaejknoipicafGreat
open Go.RowKit

theorem gsize_right {g : List Fr} (h : gchk g = 0) : gsize g = szG g := by unfold gsize; rw [if_pos h]

set_option maxHeartbeats 2000000 in
set_option maxRecDepth 100000 in
theorem isFull_any (S : Nat → Prop) (v : Value) (L : List (List Fr)) (w : World) (hv : GrsIn S w v L) (hR : ∀ g ∈ L, gchk g = 0) (hL : L.length ≤ 1000) :
    Calls Tryz.prog 52 #[v] w fun e w' => e = .returned (.bool (fullB L)) ∧ Below w.heap.size w w' := by
  obtain ⟨ao, c, rfl, _, _, hc⟩ := hv
  obtain ⟨n, hn⟩ : ∃ n, n = L.length := ⟨_, rfl⟩
  have HN : Hid (n = L.length) := hn
  have HC : Hid (∀ k, k < L.length → ∃ b off, ao = some ⟨b, off, none⟩ ∧ b < w.heap.size ∧ S b ∧ ∃ sv, w.cell? ⟨b, off + k, none⟩ = some sv ∧ FrsIn S w sv (L[k]?.getD [])) := hc
  have HR : Hid (∀ g ∈ L, gchk g = 0) := hR
  obtain ⟨FB, hFB⟩ : ∃ b, b = fullB L := ⟨_, rfl⟩
  have HFB : Hid (∀ y, y = sumG L → FB = (decide (5 < n) || (decide (1 < n) && decide (100 < y)))) := fun y hy => by rw [hFB, hy, hn]; rfl
  rw [← hn, ← hFB]
  have hn1 : n ≤ 1000 := by omega
  clear hn hc hR hL hFB
  go_enter Tryz.func52, Tryz.ntmps52
  go_wp2
  go_loopw [3, 4] (fun s i wr => ∃ (k y : Nat), k ≤ n ∧ i = .int .i64 k ∧ s = .int .i64 y ∧ Hid (y = sumG (L.take k)) ∧ Hid (y ≤ k * 192) ∧ Hid (Below w.heap.size w wr))
    (fun _ i _ => n - (intOf i).toNat)
  case atStart => exact ⟨0, 0, Nat.zero_le _, rfl, rfl, (show 0 = sumG (L.take 0) from rfl), (show 0 ≤ _ from Nat.zero_le _), Below.refl _ _⟩
  case round =>
    obtain ⟨k, y, hk, rfl, rfl, HY, HYB, HB⟩ := hrel
    by_cases hlt : k < n
    · obtain ⟨b, off, rfl, hb, _, sv, c0, hs⟩ := HC.out k (by rw [← HN.out]; exact hlt)
      have c1 := (HB.out.cell (p := ⟨b, off + k, none⟩) hb).trans c0
      obtain ⟨x, hx⟩ : ∃ x, x = L[k]?.getD [] := ⟨_, rfl⟩
      rw [← hx] at hs
      have hgx : gchk x = 0 := HR.out x (by rw [hx]; exact grAt_mem (by rw [← HN.out]; exact hlt))
      obtain ⟨z, hz⟩ : ∃ z, z = szG x := ⟨_, rfl⟩
      have hz2 : z ≤ 192 := by rw [hz, ← gsize_right hgx]; exact gsize_le x
      have HZ : Hid (y + z = sumG (L.take (k + 1))) := by
        show _ = _
        rw [sumG_take L k (by rw [← HN.out]; exact hlt), ← HY.out, show grAt L k = x from hx.symm, gsize_right hgx, hz]
      obtain ⟨a1, a2, rfl, _, _⟩ := hs.len
      have HCF : Hid (Calls Tryz.prog 96 #[.agg #[.slice a1 x.length a2]] wr fun e w' => e = .returned (.int .i64 z) ∧ Below wr.heap.size wr w') := by
        show Calls _ _ _ _ _
        rw [hz]; exact sizeOf_any _ _ x wr (hs.below HB.out) hgx
      have hyb := HYB.out
      have hlti : (k : Int) < (n : Int) := by omega
      clear hx hgx hz hs c0
      go_wp2_with fail
      refine HCF.out.mono ?_
      rintro e w2 ⟨rfl, b2⟩
      have B2 : Hid (Below w.heap.size w w2) := HB.out.trans (b2.mono HB.out.size)
      clear b2 HB c1
      go_wp2_with fail
      go_roundw
      case rel => exact ⟨k + 1, y + z, by omega, by go_num, by go_num, HZ.out, (show y + z ≤ _ by omega), B2.out⟩
      case measure => simp [intOf]; omega
    · have hkl : k = n := by omega
      subst hkl
      have hfb := HFB.out y (by rw [HY.out, HN.out, List.take_length])
      have HH : Hid (FB = (decide (5 < k) || (decide (1 < k) && decide (100 < y)))) := hfb
      have BW : Hid (Below w.heap.size w wr) := HB.out
      clear hfb HFB HB HY
      by_cases h5 : 5 < k
      · have hr : FB = true := by rw [HH.out, decide_eq_true h5]; rfl
        have h5i : (5 : Int) < (k : Int) := by omega
        subst hr
        go_wp2
        go_ret
        exact ⟨rfl, BW.out⟩
      · by_cases h1 : 1 < k
        · have hr : FB = decide (100 < y) := by rw [HH.out, decide_eq_false h5, decide_eq_true h1]; rfl
          subst hr
          have h5i : ¬ (5 : Int) < (k : Int) := by omega
          have h1i : (1 : Int) < (k : Int) := by omega
          by_cases hy : 100 < y
          · have hyi : (100 : Int) < (y : Int) := by omega
            go_wp2
            go_ret
            exact ⟨by simp, BW.out⟩
          · have hyi : ¬ (100 : Int) < (y : Int) := by omega
            go_wp2
            go_ret
            exact ⟨by simp, BW.out⟩
        · have hr : FB = false := by rw [HH.out, decide_eq_false h5, decide_eq_false h1]; rfl
          subst hr
          have h5i : ¬ (5 : Int) < (k : Int) := by omega
          have h1i : ¬ (1 : Int) < (k : Int) := by omega
          go_wp2
          go_ret
          exact ⟨rfl, BW.out⟩

/-- what Trimmed must say -/
def TrimsWell (S : Nat → Prop) (L : List (List Fr)) : Prop := ∀ (first : Int) (v : Value) (w : World), GrsIn S w v L → (∀ g ∈ L, gchk g = 0) → L.length ≤ 1000 → -1000000000 ≤ first → first + L.length ≤ 1000000000 →
    Calls Tryz.prog 54 #[.int .i64 first, v] w fun e w' => ∃ v', e = .returned (.tuple #[.int .i64 (first + trimD L), v']) ∧ GrsIn S w' v' (L.drop (trimD L)) ∧ Below w.heap.size w w'

set_option maxHeartbeats 2000000 in
set_option maxRecDepth 100000 in
theorem trimmed_no (S : Nat → Prop) (L : List (List Fr)) (hb : fullB L = false) : TrimsWell S L := by
  intro first v w hv hR hL hf0 hf1
  have HF : Hid (Calls Tryz.prog 52 #[v] w fun e w' => e = .returned (.bool false) ∧ Below w.heap.size w w') := by
    have := isFull_any S v L w hv hR hL
    rw [hb] at this
    exact this
  have HV : Hid (Stay w (fun U => GrsIn S U v L)) := hv.stay
  have HT : Hid (trimD L = 0) := trimD_no hb
  obtain ⟨n, hn⟩ : ∃ n, n = L.length := ⟨_, rfl⟩
  obtain ⟨ao, c, ev, _⟩ := hv
  rw [← hn] at ev
  subst ev
  clear hb hR hL hf1 hn
  go_enter Tryz.func54, Tryz.ntmps54
  go_wp2_with fail
  refine HF.out.mono ?_
  rintro e w1 ⟨rfl, b1⟩
  go_wp2_with fail
  exact bodyPost_ret (v := .tuple #[.int .i64 first, .slice ao n c]) (by simp [results, Tryz.results54, go_sem]) rfl ⟨.slice ao n c, by rw [HT.out]; simp, by rw [HT.out]; exact HV.out _ b1, b1⟩

set_option maxHeartbeats 2000000 in
set_option maxRecDepth 100000 in
theorem trimmed_yes (S : Nat → Prop) (g : List Fr) (r : List (List Fr)) (hb : fullB (g :: r) = true) (ih : TrimsWell S r) : TrimsWell S (g :: r) := by
  intro first v w hv hR hL hf0 hf1
  have HF : Hid (Calls Tryz.prog 52 #[v] w fun e w' => e = .returned (.bool true) ∧ Below w.heap.size w w') := by
    have := isFull_any S v (g :: r) w hv hR hL
    rw [hb] at this
    exact this
  have HT : Hid (trimD (g :: r) = trimD r + 1) := trimD_yes hb
  have h1 := fullB_len hb
  obtain ⟨a0, c0, e0, hc0, _⟩ := hv.len
  subst e0
  obtain ⟨b, off, e1, _, hc1, hta⟩ := hv.tail h1
  subst e1
  obtain ⟨m, hm⟩ : ∃ m, m = (g :: r).length := ⟨_, rfl⟩
  rw [← hm] at hta h1 hL hc0 hc1 HF
  obtain ⟨D, hD⟩ : ∃ D, D = trimD r := ⟨_, rfl⟩
  have HTA : Hid (Stay w (fun U => GrsIn S U (.slice (some ⟨b, off + 1, none⟩) (m - 1) (c0 - 1)) r)) := hta.stay
  have HI : Hid (∀ U : World, GrsIn S U (.slice (some ⟨b, off + 1, none⟩) (m - 1) (c0 - 1)) r → Calls Tryz.prog 54 #[.int .i64 (first + 1), .slice (some ⟨b, off + 1, none⟩) (m - 1) (c0 - 1)] U fun e w' => ∃ v', e = .returned (.tuple #[.int .i64 (first + 1 + D), v']) ∧ GrsIn S w' v' (r.drop D) ∧ Below U.heap.size U w') := fun U hU => by
    rw [hD]
    exact ih (first + 1) _ U hU (fun x hx => hR x (List.mem_cons_of_mem _ hx)) (by simp at hm; omega) (by omega) (by simp at hf1 ⊢; omega)
  rw [← hD] at HT
  have hmi : (1 : Int) < (m : Int) := by omega
  have hmm : 1 ≤ m := by omega
  have hlast : first ≤ 1000000000 := by simp at hf1; omega
  rw [← hm]
  clear hv hta hm hR hf1 hb hD ih
  go_enter Tryz.func54, Tryz.ntmps54
  go_wp2_with fail
  refine HF.out.mono ?_
  rintro e w1 ⟨rfl, b1⟩
  have B1 : Hid (Below w.heap.size w w1) := b1
  clear b1
  go_wp2_with fail
  refine (HI.out _ (HTA.out _ B1.out)).mono ?_
  rintro e w2 ⟨v', rfl, h2, b2⟩
  have B2 : Hid (Below w.heap.size w w2) := B1.out.trans (b2.mono B1.out.size)
  have H2 : Hid (GrsIn S w2 v' (r.drop D)) := h2
  clear b2 h2
  go_wp2_with fail
  rw [HT.out]
  exact bodyPost_ret (v := .tuple #[.int .i64 (first + 1 + D), v']) (by simp [results, Tryz.results54, go_sem]) rfl ⟨v', by rw [show first + 1 + (D : Int) = first + ((D + 1 : Nat) : Int) by omega], by rw [List.drop_succ_cons]; exact H2.out, B2.out⟩

theorem trimmed_any (S : Nat → Prop) (L : List (List Fr)) : TrimsWell S L := by
  induction L with
  | nil => exact trimmed_no S [] fullB_nil
  | cons g r ih =>
    cases hb : fullB (g :: r)
    · exact trimmed_no S _ hb
    · exact trimmed_yes S g r hb ih

set_option maxHeartbeats 2000000 in
set_option maxRecDepth 100000 in
theorem refCheckStore_any (S : Nat → Prop) (first : Int) (gv ov : Value) (L : List (List Fr)) (O : List Fr) (w : World) (hg : GrsIn S w gv L) (ho : FrsIn S w ov O) :
    Calls Tryz.prog 11 #[.agg #[.int .i64 first, gv, ov]] w fun e w' => e = .returned (.int .i64 (stchk first L O)) ∧ Below w.heap.size w w' := by
  have HG : Hid (GrsIn S w gv L) := hg
  have HO : Hid (FrsIn S w ov O) := ho
  obtain ⟨ao, c, hva, h1, h2, hc⟩ := hg
  obtain ⟨oa, oc, eo, _, hol⟩ := ho.len
  obtain ⟨n, hn⟩ : ∃ n, n = L.length := ⟨_, rfl⟩
  obtain ⟨m, hm⟩ : ∃ m, m = O.length := ⟨_, rfl⟩
  have HN : Hid (n = L.length) := hn
  have HC : Hid (∀ k, k < L.length → ∃ b off, ao = some ⟨b, off, none⟩ ∧ b < w.heap.size ∧ S b ∧ ∃ sv, w.cell? ⟨b, off + k, none⟩ = some sv ∧ FrsIn S w sv (L[k]?.getD [])) := hc
  rw [← hn] at hva h1
  rw [← hm] at eo hol
  obtain ⟨E, hE⟩ : ∃ E, E = stchk first L O := ⟨_, rfl⟩
  have HE : Hid (E = if first < 0 then 3 else if 100000 < first then 3 else if 5 < n then 2 else
    if goN (fun k => gchk (grAt L k)) n 0 = 0 then (if tooB L then 2 else if 0 < m then gchk O else 0) else goN (fun k => gchk (grAt L k)) n 0) := by show _ = _; rw [hE, hn, hm]; rfl
  rw [← hE]
  clear hc hn hm hE ho
  subst hva eo
  by_cases f1 : first < 0
  · have e : E = 3 := by rw [HE.out, if_pos f1]
    have f1d : decide (0 ≤ first) = false := decide_eq_false (by omega)
    rw [e]
    go_enter Tryz.func11, Tryz.ntmps11
    go_wp2
    go_ret
    exact ⟨rfl, (Below.refl _ _).alloc (Nat.le_refl _) _⟩
  by_cases f2 : 100000 < first
  · have e : E = 3 := by rw [HE.out, if_neg f1, if_pos f2]
    have f1d : decide (0 ≤ first) = true := decide_eq_true (by omega)
    have f2d : decide (first ≤ 100000) = false := decide_eq_false (by omega)
    rw [e]
    go_enter Tryz.func11, Tryz.ntmps11
    go_wp2
    go_ret
    exact ⟨rfl, (Below.refl _ _).alloc (Nat.le_refl _) _⟩
  have f1d : decide (0 ≤ first) = true := decide_eq_true (by omega)
  have f2d : decide (first ≤ 100000) = true := decide_eq_true (by omega)
  by_cases f3 : 5 < n
  · have e : E = 2 := by rw [HE.out, if_neg f1, if_neg f2, if_pos f3]
    have f3i : (5 : Int) < (n : Int) := by omega
    rw [e]
    go_enter Tryz.func11, Tryz.ntmps11
    go_wp2
    go_ret
    exact ⟨rfl, (Below.refl _ _).alloc (Nat.le_refl _) _⟩
  have f3i : ¬ (5 : Int) < (n : Int) := by omega
  have HE2 : Hid (E = if goN (fun k => gchk (grAt L k)) n 0 = 0 then (if tooB L then 2 else if 0 < m then gchk O else 0) else goN (fun k => gchk (grAt L k)) n 0) := by show _ = _; rw [HE.out, if_neg f1, if_neg f2, if_neg f3]
  clear HE
  go_enter Tryz.func11, Tryz.ntmps11
  go_wp2
  go_loopw [3] (fun i wr => ∃ k : Nat, k ≤ n ∧ i = .int .i64 k ∧ Hid (∀ j, j < k → gchk (grAt L j) = 0) ∧ Hid (Blk wr w.heap.size #[.int .i64 first, .slice ao n c, .slice oa m oc] 27) ∧ Hid (Below w.heap.size w wr))
    (fun i _ => n - (intOf i).toNat)
  case atStart => exact ⟨0, Nat.zero_le _, rfl, (show ∀ j, _ → _ from fun j hj => absurd hj (Nat.not_lt_zero _)), Blk.new _ _ _, (Below.refl _ _).alloc (Nat.le_refl _) _⟩
  case round =>
    obtain ⟨k, hk, rfl, HK, KB, HB⟩ := hrel
    by_cases hlt : k < n
    · obtain ⟨b, off, rfl, hb, _, sv, c0, hs⟩ := HC.out k (by rw [← HN.out]; exact hlt)
      obtain ⟨g, hg⟩ : ∃ g, g = grAt L k := ⟨_, rfl⟩
      rw [show L[k]?.getD [] = g from hg.symm] at hs
      have c1 := (HB.out.cell (p := ⟨b, off + k, none⟩) hb).trans c0
      obtain ⟨sa, sc, esv, _, _⟩ := hs.len
      obtain ⟨gn, hgn⟩ : ∃ gn, gn = g.length := ⟨_, rfl⟩
      rw [← hgn] at esv
      obtain ⟨e, he⟩ : ∃ e, e = gchk g := ⟨_, rfl⟩
      have HS : Hid (∀ U, Below w.heap.size w U → Calls Tryz.prog 51 #[.agg #[sv]] U fun e' w'' => e' = .returned (.int .i64 e) ∧ Below U.heap.size U w'') := fun U hU => by
        rw [he]; exact refCheckGroup_any S sv g U (hs.below hU)
      have hlti : (k : Int) < (n : Int) := by omega
      have HGE : Hid (e = gchk (grAt L k)) := by show _ = _; rw [he, hg]
      clear hs hg hgn he c0
      subst esv
      obtain ⟨k0, k1, k2⟩ := KB.out.three
      go_wp2_with fail
      have B1 : Hid (Below w.heap.size w wr) := HB
      have K1 := KB
      refine (HS.out _ B1.out).mono ?_
      rintro e' w2 ⟨rfl, hb2⟩
      have B2 : Hid (Below w.heap.size w w2) := B1.out.trans (hb2.mono B1.out.size)
      have K2 : Hid (Blk w2 w.heap.size #[.int .i64 first, .slice (some ⟨b, off, none⟩) n c, .slice oa m oc] 27) := K1.out.below hb2 K1.out.lt
      clear hb2 c1 K1 B1 KB HB k0 k1 k2
      by_cases he0 : e = 0
      · have HK2 : Hid (∀ j, j < k + 1 → gchk (grAt L j) = 0) := fun j hj => by
          by_cases e' : j = k
          · subst e'; rw [← HGE.out]; exact he0
          · exact HK.out j (by omega)
        clear HGE
        subst he0
        go_wp2_with fail
        go_roundw
        case rel => exact ⟨k + 1, by omega, by go_num, HK2, K2, B2⟩
        case measure => simp [intOf]; omega
      · have hE : E = e := by
          have hh := goN_hit (e := fun k => gchk (grAt L k)) n 0 k (Nat.zero_le _) (by omega) (fun j _ hj => HK.out j hj) (by show ¬ gchk (grAt L k) = 0; rw [← HGE.out]; exact he0)
          change goN (fun k => gchk (grAt L k)) n 0 = gchk (grAt L k) at hh
          rw [← HGE.out] at hh
          rw [HE2.out, hh, if_neg he0]
        have HEE : Hid (E = e) := hE
        clear hE
        go_wp2
        go_ret
        exact ⟨by rw [HEE.out]; rfl, B2.out⟩
    · have hkl : k = n := by omega
      subst hkl
      have hz : goN (fun k => gchk (grAt L k)) k 0 = 0 := goN_all _ _ (fun j _ hj => HK.out j (by omega))
      have HE3 : Hid (E = if tooB L then 2 else if 0 < m then gchk O else 0) := by show _ = _; rw [HE2.out, if_pos hz]
      obtain ⟨T, hT⟩ : ∃ T, T = tooB L := ⟨_, rfl⟩
      have HTG : Hid (∀ U, Below w.heap.size w U → Calls Tryz.prog 52 #[.slice ao k c] U fun e' w'' => e' = .returned (.bool T) ∧ Below U.heap.size U w'') := fun U hU => by
        rw [hT, ← show fullB L = tooB L by unfold fullB; rw [decide_eq_false (by rw [← HN.out]; omega)]; rfl]
        refine isFull_any S _ L U (HG.out.below hU) (fun g hg => ?_) (by rw [← HN.out]; omega)
        obtain ⟨j, hj, e⟩ := List.mem_iff_getElem.1 hg
        have := HK.out j (by rw [HN.out]; exact hj)
        rw [show grAt L j = g by simp [grAt, List.getElem?_eq_getElem hj, e]] at this
        exact this
      have HE4 : Hid (E = if T then 2 else if 0 < m then gchk O else 0) := by show _ = _; rw [hT]; exact HE3.out
      clear hz hT HE3 HE2
      obtain ⟨k0, k1, k2⟩ := KB.out.three
      go_wp2_with fail
      refine (HTG.out _ HB.out).mono ?_
      rintro e' w2 ⟨rfl, hb2⟩
      have B2 : Hid (Below w.heap.size w w2) := HB.out.trans (hb2.mono HB.out.size)
      obtain ⟨j0, j1, j2⟩ := (KB.out.below hb2 KB.out.lt).three
      clear hb2 k0 k1 k2
      cases T
      case true =>
        have HEE : Hid (E = 2) := HE4.out
        go_wp2
        go_ret
        exact ⟨by rw [HEE.out]; rfl, B2.out⟩
      case false =>
        by_cases hm0 : 0 < m
        · have hm0i : (0 : Int) < (m : Int) := by omega
          have HEO : Hid (E = gchk O) := by show _ = _; rw [HE4.out]; simp [hm0]
          go_wp2_with fail
          refine (refCheckGroup_any S _ O _ (HO.out.below B2.out)).mono ?_
          rintro e' w3 ⟨rfl, hb3⟩
          rw [← HEO.out]
          have B3 : Hid (Below w.heap.size w w3) := B2.out.trans (hb3.mono B2.out.size)
          clear hb3 j0 j1 j2
          go_wp2
          go_ret
          exact ⟨rfl, B3.out⟩
        · have hm0i : ¬ (0 : Int) < (m : Int) := by omega
          have HEE : Hid (E = 0) := by show _ = _; rw [HE4.out]; simp [hm0]
          go_wp2
          go_ret
          exact ⟨by rw [HEE.out]; rfl, B2.out⟩

end Go.Proofs.YtnpaejknoipicafGreat

namespace Go.Proofs.YtnpaejknoipicafGreat
open Go.RowKit

theorem groups_copyS {S : Nat → Prop} {w : World} {u : Value} {L : List (List Fr)} (hS : ∀ g, S g → g < w.heap.size) (hu : GrsIn S w u L) (hb : L.length ≤ 1000) :
    ∃ v' w', (Builtin.append_ #[22, 22] 22 #[.slice (some ⟨w.heap.size, 0, none⟩) 0 0, u]).run Tryz.prog (w.alloc (.cells #[] 25)) = .ok v' w' ∧ OwnGrs w.heap.size S w' v' L ∧ Below w.heap.size w w' := by
  obtain ⟨qs, q1, q2, q3⟩ := (hu.alloc (.cells #[] 25)).sl
  have h0 : OwnGrs w.heap.size S (w.alloc (.cells #[] 25)) (.slice (some ⟨w.heap.size, 0, none⟩) 0 0) [] := ⟨[], rfl, World.ownsRow_lit (base := w.heap.size) (e := 25) (size := 1) w #[] 0 (Nat.le_refl _) (by unfold maxLen; omega) rfl, fun _ hp => absurd hp List.not_mem_nil⟩
  obtain ⟨v', w', r, o, g, _⟩ := groups_app h0 q1 q2 q3 (fun g hg e => by have := hS g hg; simp [Value.ownBlock] at e; omega) (by simpa using hb) (by simp)
  exact ⟨v', w', r, by simpa using o, ((Below.refl _ w).alloc (Nat.le_refl _) _).grown g (by simp) (fun j hj => by simp [Value.ownBlock] at hj; omega)⟩
theorem groups_snocS {base : Nat} {S : Nat → Prop} {w : World} {v ov : Value} {L : List (List Fr)} {o : List Fr} (hS : ∀ g, S g → g < base) (hv : OwnGrs base S w v L) (ho : FrsIn S w ov o) (hb : L.length ≤ 999) (hbase : base ≤ w.heap.size) :
    ∃ v' w', (Builtin.append_ #[22, 22] 22 #[v, .slice (some ⟨w.heap.size, 0, none⟩) 1 1]).run Tryz.prog (w.alloc (.cells #[ov] 25)) = .ok v' w' ∧ OwnGrs base S w' v' (L ++ [o]) ∧ Below base w w' := by
  have hS' : ∀ g, S g → some g ≠ v.ownBlock := fun g hg e => by have := (hv.lt g e.symm).1; have := hS g hg; omega
  obtain ⟨v', w', r, o', g, _⟩ := groups_app (qs := [(o, ov)]) (hv.below ((Below.refl _ w).alloc (Nat.le_refl _) (.cells #[ov] 25))) rfl (Sl.new w #[ov] 25 1 1 1 rfl) (fun p hp => by simp at hp; subst hp; exact ho.alloc _) hS' (by simpa using hb) (by simp; omega)
  exact ⟨v', w', r, o', ((Below.refl base w).alloc hbase _).grown g (by simp; omega) (fun j hj => (hv.lt j hj).1)⟩

theorem GrsIn.firstTime {S : Nat → Prop} {w : World} {ao : Option Addr} {n c k : Nat} {L : List (List Fr)} (h : GrsIn S w (.slice ao n c) L) (hk : k < L.length) (h0 : 0 < (grAt L k).length) :
    ∃ b off b2 off2 sn sc, ao = some ⟨b, off, none⟩ ∧ w.cell? ⟨b, off + k, none⟩ = some (.slice (some ⟨b2, off2, none⟩) sn sc) ∧ 0 < sn ∧ w.cell? ⟨b2, off2, none⟩ = some (.int .i64 (frAt (grAt L k) 0).time) := by
  obtain ⟨ao', c', e, _, _, hc⟩ := h
  injection e with e1 e2 e3
  subst e1
  obtain ⟨b, off, e4, _, _, sv, c0, hs⟩ := hc k hk
  obtain ⟨sa, sc, es, _, _⟩ := hs.len
  subst es
  obtain ⟨b2, off2, e5, d0, _⟩ := hs.first h0
  subst e5
  exact ⟨b, off, b2, off2, _, sc, e4, c0, h0, d0⟩

end Go.Proofs.YtnpaejknoipicafGreat
