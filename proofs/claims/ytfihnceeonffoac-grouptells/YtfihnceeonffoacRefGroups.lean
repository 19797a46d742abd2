/-
  Contract: the document's GroupsOf.
-/
import Derived.Test.YtfihnceeonffoacRefGrow
import Derived.Test.YtfihnceeonffoacRefGroup
import Derived.Test.YtfihnceeonffoacRegMain
namespace Go.Proofs.Ytfihnceeonffoac
open Go.RowKit Go.Sort

/-- all but two boxes and a row -/
def SS (base : Nat) (u : Value) : Nat → Prop := fun g => g ≠ base ∧ g ≠ base + 1 ∧ some g ≠ u.ownBlock

set_option maxHeartbeats 4000000 in
set_option maxRecDepth 100000 in
theorem groupsOf_any (v : Value) (l : List Fr) (w : World) (hv : FrsIn (fun _ => True) w v l) :
    Calls Try.prog 16 #[v] w fun e w' => ∃ ca cc fa fc, e = .returned (.tuple #[.slice ca (groupsR l).1.length cc, .agg #[.slice fa (groupsR l).2.length fc], .int .i64 (groupsE l)]) ∧ GrsIn (fun _ => True) w' (.slice ca (groupsR l).1.length cc) (groupsR l).1 ∧ FrsIn (fun _ => True) w' (.slice fa (groupsR l).2.length fc) (groupsR l).2 ∧ Below w.heap.size w w' := by
  obtain ⟨ao, c, hva, hlc, hcl, hc⟩ := hv
  obtain ⟨n, hn⟩ : ∃ n, n = l.length := ⟨_, rfl⟩
  have HN : Hid (n = l.length) := hn
  have HC : Hid (∀ k, k < l.length → ∃ b off, ao = some ⟨b, off, none⟩ ∧ b < w.heap.size ∧ True ∧ At3In (fun _ => True) w b (off + k * 3) (l[k]?.getD Fr.zero)) := hc
  rw [← hn] at hva hlc
  have hlen : n ≤ 9223372036854775807 := by omega
  obtain ⟨E, hE⟩ : ∃ E, E = groupsE l := ⟨_, rfl⟩
  have HE : Hid (E = if 100 < n then 2 else goN (fun k => (frAt l k).chk) n 0) := by show _ = _; rw [hE, hn]; rfl
  obtain ⟨RA, RO, hR⟩ : ∃ RA RO, (RA, RO) = groupsR l := ⟨_, _, rfl⟩
  have HR : Hid ((RA, RO) = if E = 0 then upG l n else ([], [])) := by show _ = _; rw [hR, hE, hn]; rfl
  rw [← hE, ← hR]
  simp only
  have HZ : Hid (¬ E = 0 → RA = [] ∧ RO = []) := fun h => by
    have := HR.out
    rw [if_neg h] at this
    injection this with h1 h2
    exact ⟨h1, h2⟩
  clear hc hn hE hR hlc
  subst hva
  by_cases h1 : 100 < n
  · have hE2 : E = 2 := by rw [HE.out, if_pos h1]
    obtain ⟨hA, hO⟩ := HZ.out (by omega)
    rw [hE2, hA, hO]
    go_enter Try.func16, Try.ntmps16
    go_wp2
    exact bodyPost_ret (v := .tuple #[.slice none 0 0, .agg #[.slice none 0 0], .int .i64 2]) (by simp [results, Try.results16, go_sem]) rfl ⟨none, 0, none, 0, rfl, GrsIn.nil _ _, FrsIn.nil _ _, by repeat first | exact Below.refl _ _ | refine Below.setCell ?_ (by simp <;> omega) _ | refine Below.alloc ?_ (by simp <;> omega) _⟩
  have hl100 : n ≤ 100 := by omega
  have HE2 : Hid (E = goN (fun k => (frAt l k).chk) n 0) := by show _ = _; rw [HE.out, if_neg h1]
  clear h1 HE
  go_enter Try.func16, Try.ntmps16
  go_wp2_with fail
  go_loopw [5, 7] (fun s5 i wr => ∃ (k : Nat) (u ov : Value), k ≤ n ∧ i = .int .i64 k ∧ s5 = u ∧ Hid (OwnGrs (w.heap.size + 2) (SS w.heap.size u) wr u (upG l k).1) ∧ Hid (Blk wr w.heap.size #[.slice none 0 0] 35) ∧ Hid (Blk wr (w.heap.size + 1) #[ov] 35) ∧ Hid (FrsIn (SS w.heap.size u) wr ov (upG l k).2) ∧ Hid (∀ j, j < k → (frAt l j).chk = 0) ∧ Hid (Below w.heap.size w wr))
    (fun _ i _ => n - (intOf i).toNat)
  case atStart =>
    refine ⟨0, _, .slice none 0 0, Nat.zero_le _, rfl, rfl, OwnGrs.nil _ _ _, (Blk.new w _ _).alloc _, ?_, FrsIn.nil _ _, (show ∀ j, _ → _ from fun j hj => absurd hj (Nat.not_lt_zero _)), ((Below.refl _ w).alloc (Nat.le_refl _) _).alloc (by simp) _⟩
    have := Blk.new (w.alloc (.cells #[.slice none 0 0] 35)) #[.slice none 0 0] 35
    simpa [Hid] using this
  case round =>
    obtain ⟨k, _, ov, hk, rfl, rfl, HOut, HRes, HBl, HFO, HCk, HB⟩ := hrel
    by_cases hlt : k < n
    · obtain ⟨b, off, rfl, hbb, _, pv, c0, c1, c2, hps⟩ := HC.out k (by rw [← HN.out]; exact hlt)
      obtain ⟨f, hf⟩ : ∃ f, f = frAt l k := ⟨_, rfl⟩
      rw [show l[k]?.getD Fr.zero = f from hf.symm] at c0 c1 hps
      have CF : Hid (∀ U, Below w.heap.size w U → U.cell? ⟨b, off + k * 3, none⟩ = some (.int .i64 f.time) ∧ U.cell? ⟨b, off + k * 3 + 1, none⟩ = some (.bool f.key) ∧ U.cell? ⟨b, off + k * 3 + 2, none⟩ = some pv) := fun U hU => ⟨(hU.cell (p := ⟨b, off + k * 3, none⟩) hbb).trans c0, (hU.cell (p := ⟨b, off + k * 3 + 1, none⟩) hbb).trans c1, (hU.cell (p := ⟨b, off + k * 3 + 2, none⟩) hbb).trans c2⟩
      have HPS : Hid (StrsIn (fun g => g < w.heap.size) w pv f.parts) := hps.mono (fun g hg _ => hg)
      obtain ⟨pa, pc, epv⟩ := hps.1.len
      obtain ⟨pn, hpn⟩ : ∃ pn, pn = f.parts.length := ⟨_, rfl⟩
      rw [← hpn] at epv
      have hlti : (k : Int) < (n : Int) := by omega
      have hC1 : Hid (∀ U, Below w.heap.size w U → Calls Try.prog 25 #[.agg #[.int .i64 f.time, .bool f.key, pv]] U fun e w'' => e = .returned (.int .i64 f.chk) ∧ Below U.heap.size U w'') := fun U hU =>
        refCheckFrame_any _ _ _ _ _ (HPS.out.below hU).1 (HPS.out).2.1
      have HF : Hid (f = frAt l k) := hf
      clear c0 c1 c2 hps hpn hf
      subst epv
      obtain ⟨d0, d1, d2⟩ := CF.out wr HB.out
      by_cases hx0 : f.chk = 0
      case neg =>
        obtain ⟨e, he⟩ : ∃ e, e = f.chk := ⟨_, rfl⟩
        have hE3 : E = e := by
          rw [HE2.out, he, HF.out]
          exact goN_hit n 0 k (Nat.zero_le _) (by omega) (fun j _ hj => HCk.out j hj) (by rw [← HF.out]; exact hx0)
        have hC2 : Hid (∀ U, Below w.heap.size w U → Calls Try.prog 25 #[.agg #[.int .i64 f.time, .bool f.key, .slice pa pn pc]] U fun e' w'' => e' = .returned (.int .i64 e) ∧ Below U.heap.size U w'') := fun U hU => by rw [he]; exact hC1.out U hU
        have he0 : ¬ e = 0 := by rw [he]; exact hx0
        obtain ⟨hA, hO⟩ := HZ.out (by rw [hE3]; exact he0)
        have HAO : Hid (E = e ∧ RA = [] ∧ RO = []) := ⟨hE3, hA, hO⟩
        clear he hx0 hE3 hA hO hC1
        go_wp2_with fail
        refine (hC2.out _ HB.out).mono ?_
        rintro e2 w2 ⟨rfl, hb2⟩
        have B2 : Hid (Below w.heap.size w w2) := HB.out.trans (hb2.mono HB.out.size)
        have kr := HRes.out.below hb2 HRes.out.lt
        have r0 := kr.one
        have r1 := kr.free 0
        clear hb2 d0 d1 d2 kr
        go_wp2
        obtain ⟨a1, a2, a3⟩ := HAO.out
        rw [a1, a2, a3]
        exact bodyPost_ret (v := .tuple #[.slice none 0 0, .agg #[.slice none 0 0], .int .i64 e]) (by simp [results, Try.results16, go_sem, r0]) rfl ⟨none, 0, none, 0, rfl, GrsIn.nil _ _, FrsIn.nil _ _, by first | exact B2.out | exact B2.out.setCell (by simp) _⟩
      have hC2 : Hid (∀ U, Below w.heap.size w U → Calls Try.prog 25 #[.agg #[.int .i64 f.time, .bool f.key, .slice pa pn pc]] U fun e' w'' => e' = .returned (.int .i64 0) ∧ Below U.heap.size U w'') := fun U hU => by rw [← hx0]; exact hC1.out U hU
      have HCk2 : Hid (∀ j, j < k + 1 → (frAt l j).chk = 0) := fun j hj => by
        by_cases e : j = k
        · subst e; rw [← HF.out]; exact hx0
        · exact HCk.out j (by omega)
      have HUP : Hid (upG l (k + 1) = stepG (upG l k) f) := by show _ = _; rw [HF.out]; exact upG_succ l k (by rw [← HN.out]; exact hlt)
      obtain ⟨ln1, ln2⟩ := upG_len l k (by rw [← HN.out]; omega)
      obtain ⟨C, O, hCO⟩ : ∃ C O, upG l k = (C, O) := ⟨_, _, rfl⟩
      rw [hCO] at HOut HFO HUP ln1 ln2
      simp only at HOut HFO ln1 ln2
      obtain ⟨oa, oc, eo, _, _⟩ := HFO.out.len
      obtain ⟨q, hq⟩ : ∃ q, q = O.length := ⟨_, rfl⟩
      rw [← hq] at eo ln1
      have HQ : Hid (q = O.length) := hq
      have HCL : Hid (C.length ≤ 100) := by show _ ≤ _; omega
      obtain ⟨R, hRg⟩ : ∃ R, R = growG O f := ⟨_, rfl⟩
      obtain ⟨m, hm⟩ : ∃ m, m = R.length := ⟨_, rfl⟩
      obtain ⟨cl, hcl2⟩ : ∃ cl, cl = (f.key && decide (0 < q)) := ⟨_, rfl⟩
      have HST : Hid (stepG (C, O) f = (if cl then C ++ [O] else C, R)) := by show _ = _; rw [hcl2, hRg, hq]; rfl
      have HM : Hid (m = R.length) := hm
      have HG : Hid (∀ (U : World) (T : Nat → Prop), FrsIn T U (.slice oa q oc) O → StrsIn T U (.slice pa pn pc) f.parts → Calls Try.prog 40 #[.agg #[.slice oa q oc], .agg #[.int .i64 f.time, .bool f.key, .slice pa pn pc]] U fun e w'' => ∃ a c, e = .returned (.tuple #[.agg #[.slice a m c], .bool cl]) ∧ FrsIn (fun b => T b ∨ U.heap.size ≤ b) w'' (.slice a m c) R ∧ Below U.heap.size U w'') := fun U T h1 h2 => by
        rw [hm, hcl2, hRg, hq]
        rw [hq] at h1 ln1
        exact growOf_any T _ O f _ U h1 h2 ln1
      clear hCO hq hRg hm hcl2 hC1 hx0 HF HCk
      subst eo
      go_wp2_with fail
      refine (hC2.out _ HB.out).mono ?_
      rintro e w2 ⟨rfl, hb2⟩
      have HOut2 : Hid (OwnGrs (w.heap.size + 2) (SS w.heap.size u5) w2 u5 C) := HOut.out.below hb2
      have HRes2 : Hid (Blk w2 w.heap.size #[.slice none 0 0] 35) := HRes.out.below hb2 HRes.out.lt
      have HBl2 : Hid (Blk w2 (w.heap.size + 1) #[.slice oa q oc] 35) := HBl.out.below hb2 HBl.out.lt
      have HFO2 : Hid (FrsIn (SS w.heap.size u5) w2 (.slice oa q oc) O) := HFO.out.below hb2
      have HB2 : Hid (Below w.heap.size w w2) := HB.out.trans (hb2.mono HB.out.size)
      clear hb2 d0 d1 d2 HOut HRes HBl HFO HB hC2
      have k0 := HBl2.out.one
      have hw2 : w.heap.size + 1 < w2.heap.size := HBl2.out.lt
      go_wp2_with fail
      refine region_main (by kernel_rfl) (by kernel_rfl) [.quiet (.agg #[.slice oa q oc]), .quiet (.slice (some ⟨b, off, none⟩) n c), .quiet (.int .i64 k), .quiet (.pointer (some ⟨b, off + k * 3, none⟩)), .quiet (.agg #[.int .i64 f.time, .bool f.key, .slice pa pn pc]), .main, .fin (fun r => r), .fin (exT 0), .fin (exT 1), .box 35 #[.slice none 0 0], .put 9 (fun r => aggC (exT 0 r)), .fin (exT 1)] 5 (by kernel_rfl)
        (fun S r w' => ∃ a1 c1, r = .tuple #[.agg #[.slice a1 m c1], .bool cl] ∧ FrsIn (fun g => S g ∧ (SS w.heap.size u5 g ∨ w2.heap.size ≤ g)) w' (.slice a1 m c1) R) ?loc ?step ?fin
      case loc =>
        rintro S r w1 w3 ⟨a1, c1, rfl, h1⟩ hs hsame
        exact ⟨a1, c1, rfl, h1.to ⟨hs, fun g hg hS => hsame g hS.1 hg⟩ (fun _ _ h => h)⟩
      case step =>
        intro i o ho a' w' r hb hfree hvals
        have f6 : a'.eval (.tmp 6) = .pointer (some ⟨w.heap.size + 1, 0, none⟩) := (hfree 6 (by kernel_rfl)).trans rfl
        have f0 : a'.eval (.tmp 0) = .slice (some ⟨b, off, none⟩) n c := (hfree 0 (by kernel_rfl)).trans rfl
        have f7 : a'.eval (.tmp 7) = .int .i64 k := (hfree 7 (by kernel_rfl)).trans rfl
        have y0 := (hb.cell (p := ⟨w.heap.size + 1, 0, none⟩) hw2).trans k0
        match i, ho with
        | 0, ho =>
          simp at ho; subst ho
          show (execOp a'.eval _).run _ w' = .ok (.value _) w'
          generalize a'.eval = ρ at *
          simp [execOp, go_sem, f6, y0]
        | 1, ho =>
          simp at ho; subst ho
          show (execOp a'.eval _).run _ w' = .ok (.value _) w'
          generalize a'.eval = ρ at *
          simp [execOp, go_sem, f0]
        | 2, ho =>
          simp at ho; subst ho
          show (execOp a'.eval _).run _ w' = .ok (.value _) w'
          generalize a'.eval = ρ at *
          simp [execOp, go_sem, f7]
        | 3, ho =>
          simp at ho; subst ho
          have e1 : a'.eval (.tmp 32) = .slice (some ⟨b, off, none⟩) n c := hvals 1 _ (by kernel_rfl) rfl
          have e2 : a'.eval (.tmp 33) = .int .i64 k := hvals 2 _ (by kernel_rfl) rfl
          show (execOp a'.eval _).run _ w' = .ok (.value _) w'
          generalize a'.eval = ρ at *
          simp [execOp, go_sem, e1, e2, hlti]
        | 4, ho =>
          simp at ho; subst ho
          have e1 : a'.eval (.tmp 34) = .pointer (some ⟨b, off + k * 3, none⟩) := hvals 3 _ (by kernel_rfl) rfl
          obtain ⟨d0, d1, d2⟩ := CF.out w' (HB2.out.trans (hb.mono HB2.out.size))
          show (execOp a'.eval _).run _ w' = .ok (.value _) w'
          generalize a'.eval = ρ at *
          simp [execOp, go_sem, e1, d0, d1, d2]
        | 5, ho =>
          simp at ho; subst ho
          have e1 : a'.eval (.tmp 31) = .agg #[.slice oa q oc] := hvals 0 _ (by kernel_rfl) rfl
          have e2 : a'.eval (.tmp 35) = .agg #[.int .i64 f.time, .bool f.key, .slice pa pn pc] := hvals 4 _ (by kernel_rfl) rfl
          have ef : a'.eval (.func 40) = .func (.func 40) #[] #[] := rfl
          show ∃ f args, (execOp a'.eval _).run _ w' = .ok (.enter f args) w' ∧ _
          generalize a'.eval = ρ at *
          refine ⟨40, #[.agg #[.slice oa q oc], .agg #[.int .i64 f.time, .bool f.key, .slice pa pn pc]], by simp [execOp, go_sem, e1, e2, ef], ?_⟩
          have hs := hb.size
          have hsw := HB2.out.size
          refine (HG.out w' (fun g => (SS w.heap.size u5 g ∨ g < w.heap.size) ∧ g < w2.heap.size) ((HFO2.out.mono fun g hg hS => ⟨.inl hS, hg⟩).below hb) ((HPS.out.mono fun g hg _ => ⟨.inr hg, by omega⟩).below (HB2.out.trans (hb.mono HB2.out.size)))).mono ?_
          rintro e w'' ⟨a1, c1, rfl, s1, hb4⟩
          refine ⟨_, rfl, ⟨a1, c1, rfl, s1.mono fun g hg h => ?_⟩, hb4⟩
          rcases h with ⟨h1, h2⟩ | h
          · refine ⟨⟨hg, .inl h2⟩, .inl ?_⟩
            rcases h1 with h1 | h1
            · exact h1
            · exact ⟨by omega, by omega, fun e => by have := (HOut2.out.lt g e.symm).1; omega⟩
          · exact ⟨⟨hg, .inr h⟩, .inr (by omega)⟩
        | 6, ho =>
          simp at ho; subst ho
          have e1 : a'.eval (.tmp 36) = r := hvals 5 _ (by kernel_rfl) rfl
          show ∀ S, _ → (execOp a'.eval _).run _ w' = .ok (.value r) w'
          rintro S -
          generalize a'.eval = ρ at *
          simp [execOp, go_sem, e1]
        | 7, ho =>
          simp at ho; subst ho
          have e1 : a'.eval (.tmp 30) = r := hvals 6 _ (by kernel_rfl) rfl
          show ∀ S, _ → (execOp a'.eval _).run _ w' = .ok (.value (exT 0 r)) w'
          rintro S ⟨a1, c1, rfl, _⟩
          generalize a'.eval = ρ at *
          simp [execOp, go_sem, e1, exT]
        | 8, ho =>
          simp at ho; subst ho
          have e1 : a'.eval (.tmp 30) = r := hvals 6 _ (by kernel_rfl) rfl
          show ∀ S, _ → (execOp a'.eval _).run _ w' = .ok (.value (exT 1 r)) w'
          rintro S ⟨a1, c1, rfl, _⟩
          generalize a'.eval = ρ at *
          simp [execOp, go_sem, e1, exT]
        | 9, ho =>
          simp at ho; subst ho
          show (execOp a'.eval _).run _ w' = .ok (.value _) _
          generalize a'.eval = ρ at *
          simp [execOp, go_sem]
        | 10, ho =>
          simp at ho; subst ho
          have e1 : a'.eval (.tmp 37) = exT 0 r := hvals 7 _ (by kernel_rfl) rfl
          show ∀ S, _ → ∀ t z g C, _ → _ → _ → _ → ∃ w'', (execOp a'.eval _).run _ w' = .ok .skip w'' ∧ _
          rintro S ⟨a1, c1, rfl, _⟩ t z g C hz hC hs (e2 : a'.eval (.tmp 9) = _)
          cases hz
          obtain ⟨u0, q0⟩ := cells1 hC hs
          have q1 := hC.free 0
          obtain ⟨m1, m2, m3⟩ := set1 hC hs (.slice a1 m c1)
          simp only [exT] at e1
          generalize a'.eval = ρ at *
          exact ⟨_, by simp [execOp, go_sem, e1, e2, q0, q1], m1, m2, rfl, m3, rfl, rfl, rfl⟩
        | 11, ho =>
          simp at ho; subst ho
          have e1 : a'.eval (.tmp 38) = exT 1 r := hvals 8 _ (by kernel_rfl) rfl
          show ∀ S, _ → (execOp a'.eval _).run _ w' = .ok (.value (exT 1 r)) w'
          rintro S ⟨a1, c1, rfl, _⟩
          simp only [exT] at e1
          generalize a'.eval = ρ at *
          simp [execOp, go_sem, e1, exT]
        | i + 12, ho => simp at ho
      case fin =>
        rintro r gs S W hb ⟨a1, c1, rfl, s1⟩ hS hbox hap
        obtain ⟨p1, p2, C9, p3, p4⟩ := hbox 9 _ _ (by decide) rfl
        have p5 := p4 10 _ (by decide) rfl
        subst p5
        have KP : Hid (Blk W (gs 9) #[.slice a1 m c1] 35) := p3
        simp only [putK, Kd.out, exT]
        obtain ⟨p, hp⟩ : ∃ p, p = gs 9 := ⟨_, rfl⟩
        rw [← hp] at KP p1 p2
        rw [← hp]
        have hu5 : ∀ g, u5.ownBlock = some g → w.heap.size + 2 ≤ g ∧ g < w2.heap.size := HOut2.out.lt
        have OutW : Hid (OwnGrs (w.heap.size + 2) (SS w.heap.size u5) W u5 C) := HOut2.out.below hb
        have ResW : Hid (Blk W w.heap.size #[.slice none 0 0] 35) := HRes2.out.below hb (by omega)
        have BlW : Hid (Blk W (w.heap.size + 1) #[.slice oa q oc] 35) := HBl2.out.below hb hw2
        have OW : Hid (FrsIn (SS w.heap.size u5) W (.slice oa q oc) O) := HFO2.out.below hb
        have FR : Hid (FrsIn (fun g => (SS w.heap.size u5 g ∨ w2.heap.size ≤ g) ∧ g < W.heap.size) W (.slice a1 m c1) R) := s1.mono fun g hg h => ⟨h.2, hg⟩
        have BW : Hid (Below w.heap.size w W) := HB2.out.trans (hb.mono HB2.out.size)
        have hWs := hb.size
        have HU5 : Hid (∀ g, u5.ownBlock = some g → w.heap.size + 2 ≤ g ∧ g < w2.heap.size) := hu5
        clear hp s1 hS hbox hap p2 p3 p4 hb hu5 HOut2 HRes2 HBl2 HFO2 HB2 k0
        cases cl
        · have k1 := KP.out.one
          have k2 := BlW.out.one
          have k3 := BlW.out.free 0
          obtain ⟨V, hV⟩ : ∃ V, V = W.setCell ⟨w.heap.size + 1, 0, none⟩ (.slice a1 m c1) := ⟨_, rfl⟩
          have hVo : ∀ g, g ≠ w.heap.size + 1 → V.heap[g]? = W.heap[g]? := fun g hg => by rw [hV]; exact Below.heap_setCell _ _ _ _ hg
          have hVs : V.heap.size = W.heap.size := by rw [hV]; simp
          have OutV : Hid (OwnGrs (w.heap.size + 2) (SS w.heap.size u5) V u5 C) := OutW.out.to ⟨by omega, fun g _ hg => hVo g hg.2.1⟩ (fun _ _ h => h) (fun g hg => hVo g (by have := (HU5.out g hg).1; omega))
          have ResV : Hid (Blk V w.heap.size #[.slice none 0 0] 35) := (hVo _ (by omega)).trans ResW.out
          have BlV : Hid (Blk V (w.heap.size + 1) #[.slice a1 m c1] 35) := by rw [hV]; exact BlW.out.set 0 _
          have FV : Hid (FrsIn (SS w.heap.size u5) V (.slice a1 m c1) R) := by
            refine FR.out.to ⟨by omega, fun g _ hg => hVo g ?_⟩ (fun g _ hg => ?_)
            · rcases hg.1 with h | h
              · exact h.2.1
              · omega
            · rcases hg.1 with h | h
              · exact h
              · exact ⟨by omega, by omega, fun e => by have := (HU5.out g e.symm).2; omega⟩
          have BV : Hid (Below w.heap.size w V) := by rw [hV]; exact BW.out.setCell (by simp) _
          clear hVo hVs
          go_wp2_with fail
          rw [← hV]
          go_roundw
          case rel =>
            have e : upG l (k + 1) = (C, R) := by rw [HUP.out, HST.out]; rfl
            refine ⟨k + 1, _, .slice a1 m c1, by omega, by go_num, rfl, ?_⟩
            rw [e]
            exact ⟨OutV, ResV, BlV, FV, HCk2, BV⟩
          case measure => simp [intOf]; omega
        · have hv1 : OwnGrs (w.heap.size + 2) (fun g => SS w.heap.size u5 g ∧ g < W.heap.size) (W.alloc (.cells #[.slice oa q oc] 35)) u5 C := (OutW.out.to (SameOn.refl _ _) (fun g hg h => ⟨h, hg⟩) (fun _ _ => rfl)).below ((Below.refl _ W).alloc (Nat.le_refl _) _)
          obtain ⟨v', w5, r5, o5, g5, dd5⟩ := groups_app (qs := [(O, .slice oa q oc)]) hv1 rfl (Sl.new W #[.slice oa q oc] 35 1 1 1 rfl) (fun p hp => by
            simp at hp; subst hp
            exact ((OW.out.mono (S' := fun g => SS w.heap.size u5 g ∧ g < W.heap.size) fun g hg h => ⟨h, hg⟩).alloc _)) (fun g hg => hg.1.2.2) (by have := HCL.out; simp; omega) (by simp; omega)
          have hg5 : ∀ g, g < W.heap.size → some g ≠ u5.ownBlock → w5.heap[g]? = W.heap[g]? := fun g h1 h2 => (g5.block g (by simp; omega) h2).trans (Below.heap_alloc W _ g h1)
          have hs5 : W.heap.size + 1 ≤ w5.heap.size := by have := g5.size; simpa using this
          have KP5 : Blk w5 p #[.slice a1 m c1] 35 := (hg5 p KP.out.lt (fun e => by have := (HU5.out p e.symm).2; omega)).trans KP.out
          have Bl5 : Blk w5 (w.heap.size + 1) #[.slice oa q oc] 35 := (hg5 _ BlW.out.lt (fun e => by have := (HU5.out _ e.symm).1; omega)).trans BlW.out
          have Res5 : Blk w5 w.heap.size #[.slice none 0 0] 35 := (hg5 _ ResW.out.lt (fun e => by have := (HU5.out _ e.symm).1; omega)).trans ResW.out
          have B5 : Below w.heap.size w w5 := (BW.out.alloc BW.out.size _).grown g5 (by simp; omega) (fun j hj => by have := (HU5.out j hj).1; omega)
          have ov5 : ∀ g, v'.ownBlock = some g → w.heap.size + 2 ≤ g := fun g hg => (o5.lt g hg).1
          have k1 := KP5.one
          have k2 := Bl5.one
          have k3 := Bl5.free 0
          have k4 := BlW.out.one
          obtain ⟨V, hV⟩ : ∃ V, V = w5.setCell ⟨w.heap.size + 1, 0, none⟩ (.slice a1 m c1) := ⟨_, rfl⟩
          have hVo : ∀ g, g ≠ w.heap.size + 1 → V.heap[g]? = w5.heap[g]? := fun g hg => by rw [hV]; exact Below.heap_setCell _ _ _ _ hg
          have hVs : V.heap.size = w5.heap.size := by rw [hV]; simp
          have hnew : ∀ g, SS w.heap.size u5 g → g < W.heap.size → some g ≠ v'.ownBlock := fun g h1 h2 e => by
            rcases dd5 with d | d
            · rw [d] at e; exact h1.2.2 e
            · have := d g e.symm; simp at this; omega
          have OutV : Hid (OwnGrs (w.heap.size + 2) (SS w.heap.size v') V v' (C ++ [O])) := o5.to ⟨by omega, fun g _ hg => hVo g hg.1.2.1⟩ (fun g _ h => ⟨h.1.1, h.1.2.1, hnew g h.1 h.2⟩) (fun g hg => hVo g (by have := ov5 g hg; omega))
          have ResV : Hid (Blk V w.heap.size #[.slice none 0 0] 35) := (hVo _ (by omega)).trans Res5
          have BlV : Hid (Blk V (w.heap.size + 1) #[.slice a1 m c1] 35) := by rw [hV]; exact Bl5.set 0 _
          have FV : Hid (FrsIn (SS w.heap.size v') V (.slice a1 m c1) R) := by
            have e1 : ∀ g, g < W.heap.size → (SS w.heap.size u5 g ∨ w2.heap.size ≤ g) → SS w.heap.size u5 g := fun g _ h => by
              rcases h with h | h
              · exact h
              · exact ⟨by omega, by omega, fun e => by have := (HU5.out g e.symm).2; omega⟩
            refine FR.out.to ⟨by omega, fun g hg h => ?_⟩ (fun g hg h => ?_)
            · have h1 := e1 g hg h.1
              exact (hVo g h1.2.1).trans (hg5 g hg h1.2.2)
            · have h1 := e1 g hg h.1
              exact ⟨h1.1, h1.2.1, hnew g h1 hg⟩
          have BV : Hid (Below w.heap.size w V) := by rw [hV]; exact B5.setCell (by simp) _
          clear hVo hVs hnew hg5 KP5 Bl5 Res5 B5 ov5 hv1 o5 g5 dd5
          go_wp2_with (at_builtin; refine wpList_append_run rfl (.tmp 40) (.tmp 42) 38 38 rfl _ _ rfl rfl r5 ?_)
          rw [← hV]
          go_roundw
          case rel =>
            have e : upG l (k + 1) = (C ++ [O], R) := by rw [HUP.out, HST.out]; rfl
            refine ⟨k + 1, _, .slice a1 m c1, by omega, by go_num, rfl, ?_⟩
            rw [e]
            exact ⟨OutV, ResV, BlV, FV, HCk2, BV⟩
          case measure => simp [intOf]; omega
    · have hkn : k = n := by omega
      subst hkn
      have hE0 : E = 0 := by rw [HE2.out]; exact goN_all _ _ (fun j _ hj => HCk.out j (by omega))
      have hRR := HR.out
      rw [if_pos hE0] at hRR
      rw [← hRR] at HOut HFO
      simp only at HOut HFO
      have HE0 : Hid (E = 0) := hE0
      obtain ⟨ua, uc, eu, _, _⟩ := (HOut.out.grsIn (S' := fun _ => True) (fun _ _ _ => trivial) (fun _ _ => trivial)).len
      obtain ⟨oa, oc, eo, _, _⟩ := HFO.out.len
      have OF : Hid (FrsIn (SS w.heap.size u5) wr ov RO) := HFO.out
      have HOL : Hid (∀ g, u5.ownBlock = some g → w.heap.size + 2 ≤ g) := fun g hg => (HOut.out.lt g hg).1
      subst eo
      have r0 := HRes.out.one
      have r1 := HRes.out.free 0
      have r2 := HBl.out.one
      obtain ⟨no, hno⟩ : ∃ no, no = RO.length := ⟨_, rfl⟩
      rw [← hno] at r2 OF
      have HNO : Hid (no = RO.length) := hno
      clear hE0 hRR hno HBl HFO
      go_wp2_with fail
      go_region
      go_wp2_with fail
      have hVo : ∀ g, g ≠ w.heap.size → (wr.drew.setCell ⟨w.heap.size, 0, none⟩ (.slice oa no oc)).heap[g]? = wr.heap[g]? := fun g hg => Below.heap_setCell _ _ _ _ hg
      have hVs : wr.heap.size ≤ (wr.drew.setCell ⟨w.heap.size, 0, none⟩ (.slice oa no oc)).heap.size := by simp
      have G9 : GrsIn (fun _ => True) (wr.drew.setCell ⟨w.heap.size, 0, none⟩ (.slice oa no oc)) u5 RA := (HOut.out.to (S' := SS w.heap.size u5) ⟨hVs, fun g _ hg => hVo g hg.1⟩ (fun _ _ h => h) (fun g hg => hVo g (by have := HOL.out g hg; omega))).grsIn (fun _ _ _ => trivial) (fun _ _ => trivial)
      have O9 : FrsIn (fun _ => True) (wr.drew.setCell ⟨w.heap.size, 0, none⟩ (.slice oa no oc)) (.slice oa no oc) RO := OF.out.to ⟨hVs, fun g _ hg => hVo g hg.1⟩ (fun _ _ _ => trivial)
      have c9 : (wr.setCell ⟨w.heap.size, 0, none⟩ (.slice oa no oc)).cell? ⟨w.heap.size, 0, none⟩ = some (.slice oa no oc) := (HRes.out.set 0 _).cell rfl
      exact bodyPost_ret (v := .tuple #[u5, .agg #[.slice oa no oc], .int .i64 0]) (by simp [results, Try.results16, go_sem, c9]) rfl ⟨ua, uc, oa, oc, by rw [eu, HNO.out, HE0.out], by rw [← eu]; exact G9, by rw [← HNO.out]; exact O9, HB.out.drew.setCell (by simp) _⟩

end Go.Proofs.Ytfihnceeonffoac
