/-
  Contract: the document's FramesOf.
-/
import Derived.Test.YtdcdfpjjdobmhabRefAdd
import Derived.Test.YtdcdfpjjdobmhabFrameAll2
import Derived.Test.YtdcdfpjjdobmhabRegMain
namespace Go.Proofs.Ytdcdfpjjdobmhab
open Go.RowKit Go.Sort

set_option maxHeartbeats 4000000 in
set_option maxRecDepth 100000 in
theorem framesOf_any (v : Value) (l : List Sk) (w : World) (hv : Sls w v l) (hlen : l.length ≤ 9223372036854775807) :
    Calls Try.prog 28 #[v] w fun e w' => ∃ u, e = .returned (.tuple #[u, .int .i64 (framesE l)]) ∧ Outs w.heap.size w' u (framesR l) ∧ Below w.heap.size w w' := by
  obtain ⟨i0, hi, hz0, hz1, hz2⟩ := info_parts Try.infoFrm
  obtain ⟨ao, c, hva, hc⟩ := hv.parts
  obtain ⟨n, hn⟩ : ∃ n, n = l.length := ⟨_, rfl⟩
  have HN : Hid (n = l.length) := hn
  have HC : Hid (∀ k, k < l.length → ∃ b off, ao = some ⟨b, off, none⟩ ∧ b < w.heap.size ∧ At7 w b (off + k * 7) (l[k]?.getD Sk.zero)) := hc
  rw [← hn] at hva hlen
  obtain ⟨E, hE⟩ : ∃ E, E = framesE l := ⟨_, rfl⟩
  have HE : Hid (E = if 100 < n then 2 else chkAll l) := by show _ = _; rw [hE, hn]; rfl
  obtain ⟨R, hR⟩ : ∃ R, R = framesR l := ⟨_, rfl⟩
  have HR : Hid (R = if E = 0 then (upA l n).2 else []) := by show _ = _; rw [hR, hE, hn]; rfl
  rw [← hE, ← hR]
  clear hv hc hn hE hR
  subst hva
  by_cases h1 : 100 < n
  · have hE2 : E = 2 := by rw [HE.out, if_pos h1]
    have hR2 : R = [] := by rw [HR.out, hE2]; rfl
    rw [hE2, hR2]
    go_enter Try.func28, Try.ntmps28
    go_wp2
    exact bodyPost_ret (v := .tuple #[.slice none 0 0, .int .i64 2]) (by simp [results, Try.results28, go_sem]) rfl ⟨_, rfl, Outs.nil _ _, Below.refl _ _⟩
  have hl100 : n ≤ 100 := by omega
  have HE2 : Hid (E = chkAll l) := by show _ = _; rw [HE.out, if_neg h1]
  clear h1 HE
  go_enter Try.func28, Try.ntmps28
  go_wp2_with fail
  go_loopw [4, 6] (fun s4 i wr => ∃ (k : Nat) (u ov : Value), k ≤ n ∧ i = .int .i64 k ∧ s4 = u ∧ Hid (Outs w.heap.size wr u (upA l k).2) ∧ Hid (Blk wr w.heap.size #[ov] 54) ∧ Hid (Sls wr ov (upA l k).1) ∧ Hid (∀ g, ov.ownBlock = some g → w.heap.size < g ∧ g < wr.heap.size ∧ some g ≠ u.ownBlock) ∧ Hid ((upA l k).1.length ≤ 3) ∧ Hid ((upA l k).2.length ≤ k) ∧ Hid (∀ y ∈ (upA l k).1, y.chk = 0) ∧ Hid (chkAll (l.take k) = 0) ∧ Hid (Below w.heap.size w wr))
    (fun _ i _ => n - (intOf i).toNat)
  case atStart =>
    exact ⟨0, _, .slice none 0 0, Nat.zero_le _, rfl, rfl, Outs.nil _ _, Blk.new w _ _, Sls.nil _, (show ∀ g, _ → _ from fun g hg => by simp [Value.ownBlock] at hg), (show _ ≤ _ from Nat.zero_le _), (show _ ≤ _ from Nat.le_refl _), (show ∀ y ∈ _, _ from fun y hy => absurd hy List.not_mem_nil), (show chkAll (l.take 0) = 0 from rfl), (Below.refl _ w).alloc (Nat.le_refl _) _⟩
  case round =>
    obtain ⟨k, u, ov, hk, rfl, rfl, HOut, HBl, HSO, HDO, H3, HLn, HCk, HCA, HB⟩ := hrel
    by_cases hlt : k < n
    · obtain ⟨b, off, rfl, hbb, hat⟩ := HC.out k (by rw [← HN.out]; exact hlt)
      have hatr := hat.below HB.out hbb
      obtain ⟨x, hx⟩ : ∃ x, x = l[k]?.getD Sk.zero := ⟨_, rfl⟩
      rw [← hx] at hatr
      have HAT : Hid (At7 wr b (off + k * 7) x) := hatr
      obtain ⟨c0, c1, c2, c3, c4, c5, c6⟩ := hatr
      have HX : Hid (x = l[k]?.getD Sk.zero) := hx
      have hlti : (k : Int) < (n : Int) := by omega
      have hbr : b < wr.heap.size := Nat.lt_of_lt_of_le hbb HB.out.size
      by_cases hx0 : x.chk = 0
      case neg =>
        have hE3 : E = x.chk := by rw [HE2.out, hx]; exact chkAll_take_no (by rw [← HN.out]; exact hlt) HCA.out (by rw [← hx]; exact hx0)
        have hR3 : R = [] := by rw [HR.out, hE3, if_neg hx0]
        have HSC : Hid (∀ w' : World, Calls Try.prog 16 #[.agg #[.int .i64 x.n, .int .i64 x.p.seq, .int .i64 x.p.time, .bool x.p.f, .bool x.p.e, .bool x.p.k, .string x.p.t]] w' fun e w'' => e = .returned (.int .i64 E) ∧ Below w'.heap.size w' w'') := fun w' => by rw [hE3]; exact refSlot_any x w'
        have hE0 : ¬ E = 0 := by rw [hE3]; exact hx0
        have HR3 : Hid (R = []) := hR3
        clear hat hx hx0 hE3 hR3 HOut
        go_wp2_with fail
        refine (HSC.out _).mono ?_
        rintro e w2 ⟨rfl, hb2⟩
        have B2 : Hid (Below w.heap.size w w2) := HB.out.trans (hb2.mono HB.out.size)
        clear hb2 c0 c1 c2 c3 c4 c5 c6
        go_wp2
        exact bodyPost_ret (v := .tuple #[.slice none 0 0, .int .i64 E]) (by simp [results, Try.results28, go_sem]) rfl ⟨_, rfl, by rw [HR3.out]; exact Outs.nil _ _, B2.out⟩
      have HUP : Hid (upA l (k + 1) = stepA (upA l k) x) := by show _ = _; rw [hx]; exact upA_succ l k (by rw [← HN.out]; exact hlt)
      have HCA2 : Hid (chkAll (l.take (k + 1)) = 0) := by show _ = _; exact chkAll_take_ok (by rw [← HN.out]; exact hlt) HCA.out (by rw [← HX.out]; exact hx0)
      have HSC : Hid (∀ w' : World, Calls Try.prog 16 #[.agg #[.int .i64 x.n, .int .i64 x.p.seq, .int .i64 x.p.time, .bool x.p.f, .bool x.p.e, .bool x.p.k, .string x.p.t]] w' fun e w'' => e = .returned (.int .i64 0) ∧ Below w'.heap.size w' w'') := fun w' => by rw [← hx0]; exact refSlot_any x w'
      clear hat hx
      obtain ⟨O, F, hOF⟩ : ∃ O F, upA l k = (O, F) := ⟨_, _, rfl⟩
      rw [hOF] at HOut HSO H3 HLn HCk HUP
      obtain ⟨au, cu, eu⟩ := HOut.out.len
      obtain ⟨m, hm⟩ : ∃ m, m = F.length := ⟨_, rfl⟩
      rw [show (O, F).2 = F from rfl, ← hm] at eu
      have HM : Hid (m = F.length) := hm
      have hmk : m ≤ 100 := by have h := HLn.out; change F.length ≤ k at h; omega
      clear hOF hm
      subst eu
      obtain ⟨av, cv, eov⟩ := HSO.out.len
      obtain ⟨q, hq⟩ : ∃ q, q = O.length := ⟨_, rfl⟩
      rw [show (O, F).1 = O from rfl, ← hq] at eov
      have hq3 : q ≤ 3 := by rw [hq]; exact H3.out
      have HSO2 : Hid (Sls wr ov O) := HSO.out
      have HO3 : Hid (O.length ≤ 3) := H3.out
      have HOC : Hid (∀ y ∈ O, y.chk = 0) := HCk.out
      have HXC : Hid (x.chk = 0) := hx0
      have HOF : Hid (Outs w.heap.size wr (.slice au m cu) F) := HOut.out
      have HLN : Hid (F.length ≤ k) := HLn.out
      obtain ⟨rT, hrT⟩ : ∃ rT, rT = addT O x := ⟨_, rfl⟩
      obtain ⟨rK, hrK⟩ : ∃ rK, rK = addK O x := ⟨_, rfl⟩
      obtain ⟨rW, hrW⟩ : ∃ rW, rW = addW O x := ⟨_, rfl⟩
      obtain ⟨rP, hrP⟩ : ∃ rP, rP = addP O x := ⟨_, rfl⟩
      obtain ⟨rO, hrO⟩ : ∃ rO, rO = addO O x := ⟨_, rfl⟩
      obtain ⟨nP, hnP⟩ : ∃ nP, nP = rP.length := ⟨_, rfl⟩
      obtain ⟨nO, hnO⟩ : ∃ nO, nO = rO.length := ⟨_, rfl⟩
      have HNP : Hid (nP = rP.length) := hnP
      have HNO : Hid (nO = rO.length) := hnO
      have HAd : Hid (∀ w' : World, Sls w' ov O →
          Calls Try.prog 27 #[.agg #[ov], .agg #[.int .i64 x.n, .int .i64 x.p.seq, .int .i64 x.p.time, .bool x.p.f, .bool x.p.e, .bool x.p.k, .string x.p.t]] w' fun e w'' => ∃ a1 c1 a2 c2, e = .returned (.tuple #[.agg #[.slice a1 nO c1], .agg #[.int .i64 rT, .bool rK, .slice a2 nP c2], .bool rW]) ∧ Hid (Sls w'' (.slice a1 nO c1) rO) ∧ Hid (Strs w'' (.slice a2 nP c2) rP) ∧ Hid (∀ g, (Value.slice a2 nP c2).ownBlock = some g → w'.heap.size ≤ g ∧ ∃ cur, Blk w'' g cur 9) ∧ Hid (∀ g, (Value.slice a1 nO c1).ownBlock = some g → w'.heap.size ≤ g ∧ g < w''.heap.size) ∧ Below w'.heap.size w' w'') := fun w' h2 => by
        rw [hrT, hrK, hrW, hrP, hrO]
        refine (addOf_any ov O x w' h2 HO3.out HOC.out).mono ?_
        rintro e w'' ⟨ov', pv, rfl, h3, h4, h5, h6, h7⟩
        obtain ⟨a1, c1, rfl⟩ := h3.len
        obtain ⟨a2, c2, rfl⟩ := h4.len
        rw [← hrO, ← hnO, ← hrP, ← hnP] at *
        exact ⟨a1, c1, a2, c2, rfl, h3, h4, h5, h6, h7⟩
      have HBL2 : Hid (Blk wr w.heap.size #[ov] 54) := HBl.out
      have HST : Hid (stepA (O, F) x = (rO, if rW then F ++ [⟨rT, rK, rP⟩] else F)) := by show _ = _; rw [hrT, hrK, hrW, hrP, hrO]; rfl
      have HPL : Hid (rP.length ≤ 4) := by show _ ≤ _; rw [hrP]; exact addP_len O x HO3.out
      have HRO : Hid (rO = addO O x) := hrO
      clear hrT hrK hrW hrP hrO hnP hnO HOut HSO H3 HLn HCk hx0 hq HBl
      subst eov
      go_wp2_with fail
      refine (HSC.out _).mono ?_
      rintro e w2 ⟨rfl, hb2⟩
      have hat2 : At7 w2 b (off + k * 7) x := HAT.out.below hb2 hbr
      have HSO3 : Hid (Sls w2 (.slice av q cv) O) := HSO2.out.below hb2
      have HBL3 : Hid (Blk w2 w.heap.size #[.slice av q cv] 54) := HBL2.out.below hb2 HBL2.out.lt
      have HOF3 : Hid (Outs w.heap.size w2 (.slice au m cu) F) := HOF.out.below hb2
      have HB3 : Hid (Below w.heap.size w w2) := HB.out.trans (hb2.mono HB.out.size)
      have HDO3 : Hid (∀ g, (Value.slice au m cu).ownBlock = some g → g < w2.heap.size) := fun g hg => by
        obtain ⟨ps, _, ho, _⟩ := HOF3.out
        exact (ho.lt g hg).2
      have hw2 : w.heap.size < w2.heap.size := HBL3.out.lt
      have hb2r : b < w2.heap.size := Nat.lt_of_lt_of_le hbr hb2.size
      clear c0 c1 c2 c3 c4 c5 c6 HAT hb2 HSO2 HBL2 HOF HB HSC HDO
      have HAT2 : Hid (At7 w2 b (off + k * 7) x) := hat2
      clear hat2
      have k0 := HBL3.out.one
      go_wp2_with fail
      refine region_main (by kernel_rfl) (by kernel_rfl) [.quiet (.agg #[.slice av q cv]), .quiet (.slice (some ⟨b, off, none⟩) n c), .quiet (.int .i64 k), .quiet (.pointer (some ⟨b, off + k * 7, none⟩)), .quiet (.agg #[.int .i64 x.n, .int .i64 x.p.seq, .int .i64 x.p.time, .bool x.p.f, .bool x.p.e, .bool x.p.k, .string x.p.t]), .main, .fin (fun r => r), .fin (exT 0), .fin (exT 1), .fin (exT 2), .box 54 #[.slice none 0 0], .box 52 #[.int .i64 0, .bool false, .slice none 0 0], .put 10 (fun r => aggC (exT 0 r)), .put 11 (fun r => aggC (exT 1 r)), .fin (exT 2)] 5 (by kernel_rfl)
        (fun S r w' => ∃ a1 c1 a2 c2, r = .tuple #[.agg #[.slice a1 nO c1], .agg #[.int .i64 rT, .bool rK, .slice a2 nP c2], .bool rW] ∧ Sls w' (.slice a1 nO c1) rO ∧ (∀ g, (Value.slice a1 nO c1).ownBlock = some g → S g ∧ w2.heap.size ≤ g ∧ g < w'.heap.size) ∧ Strs w' (.slice a2 nP c2) rP ∧ (∀ g, (Value.slice a2 nP c2).ownBlock = some g → S g ∧ ∃ cur, Blk w' g cur 9)) ?loc ?step ?fin
      case loc =>
        rintro S r w1 w3 ⟨a1, c1, a2, c2, rfl, h1, h2, h3, h4⟩ hs hsame
        exact ⟨a1, c1, a2, c2, rfl, Sl.same h1 hs (fun g hg => hsame g (h2 g hg).1 (h2 g hg).2.2), fun g hg => ⟨(h2 g hg).1, (h2 g hg).2.1, Nat.lt_of_lt_of_le (h2 g hg).2.2 hs⟩,
          Sl.same h3 hs (fun g hg => by obtain ⟨e1, cur, e2⟩ := h4 g hg; exact hsame g e1 e2.lt), fun g hg => by obtain ⟨e1, cur, e2⟩ := h4 g hg; exact ⟨e1, cur, (hsame g e1 e2.lt).trans e2⟩⟩
      case step =>
        intro i o ho a' w' r hb hfree hvals
        have f5 : a'.eval (.tmp 5) = .pointer (some ⟨w.heap.size, 0, none⟩) := (hfree 5 (by kernel_rfl)).trans rfl
        have f0 : a'.eval (.tmp 0) = .slice (some ⟨b, off, none⟩) n c := (hfree 0 (by kernel_rfl)).trans rfl
        have f6 : a'.eval (.tmp 6) = .int .i64 k := (hfree 6 (by kernel_rfl)).trans rfl
        have y0 := (hb.cell (p := ⟨w.heap.size, 0, none⟩) hw2).trans k0
        match i, ho with
        | 0, ho =>
          simp at ho; subst ho
          show (execOp a'.eval _).run _ w' = .ok (.value _) w'
          generalize a'.eval = ρ at *
          simp [execOp, go_sem, f5, y0]
        | 1, ho =>
          simp at ho; subst ho
          show (execOp a'.eval _).run _ w' = .ok (.value _) w'
          generalize a'.eval = ρ at *
          simp [execOp, go_sem, f0]
        | 2, ho =>
          simp at ho; subst ho
          show (execOp a'.eval _).run _ w' = .ok (.value _) w'
          generalize a'.eval = ρ at *
          simp [execOp, go_sem, f6]
        | 3, ho =>
          simp at ho; subst ho
          have e1 : a'.eval (.tmp 30) = .slice (some ⟨b, off, none⟩) n c := hvals 1 _ (by kernel_rfl) rfl
          have e2 : a'.eval (.tmp 31) = .int .i64 k := hvals 2 _ (by kernel_rfl) rfl
          show (execOp a'.eval _).run _ w' = .ok (.value _) w'
          generalize a'.eval = ρ at *
          simp [execOp, go_sem, e1, e2, hlti]
        | 4, ho =>
          simp at ho; subst ho
          have e1 : a'.eval (.tmp 32) = .pointer (some ⟨b, off + k * 7, none⟩) := hvals 3 _ (by kernel_rfl) rfl
          obtain ⟨d0, d1, d2, d3, d4, d5, d6⟩ := HAT2.out.below hb hb2r
          show (execOp a'.eval _).run _ w' = .ok (.value _) w'
          generalize a'.eval = ρ at *
          simp [execOp, go_sem, e1, d0, d1, d2, d3, d4, d5, d6]
        | 5, ho =>
          simp at ho; subst ho
          have e1 : a'.eval (.tmp 29) = .agg #[.slice av q cv] := hvals 0 _ (by kernel_rfl) rfl
          have e2 : a'.eval (.tmp 33) = .agg #[.int .i64 x.n, .int .i64 x.p.seq, .int .i64 x.p.time, .bool x.p.f, .bool x.p.e, .bool x.p.k, .string x.p.t] := hvals 4 _ (by kernel_rfl) rfl
          have ef : a'.eval (.func 27) = .func (.func 27) #[] #[] := rfl
          show ∃ f args, (execOp a'.eval _).run _ w' = .ok (.enter f args) w' ∧ _
          generalize a'.eval = ρ at *
          refine ⟨27, #[.agg #[.slice av q cv], .agg #[.int .i64 x.n, .int .i64 x.p.seq, .int .i64 x.p.time, .bool x.p.f, .bool x.p.e, .bool x.p.k, .string x.p.t]], by simp [execOp, go_sem, e1, e2, ef], ?_⟩
          refine (HAd.out w' (HSO3.out.below hb)).mono ?_
          rintro e w'' ⟨a1, c1, a2, c2, rfl, s1, s2, s3, s4, hb4⟩
          have hs := hb.size
          exact ⟨_, rfl, ⟨a1, c1, a2, c2, rfl, s1.out, fun g hg => ⟨⟨(s4.out g hg).2, .inr (s4.out g hg).1⟩, by have := s4.out g hg; omega, (s4.out g hg).2⟩, s2.out, fun g hg => by obtain ⟨q1, cur, q2⟩ := s3.out g hg; exact ⟨⟨q2.lt, .inr q1⟩, cur, q2⟩⟩, hb4⟩
        | 6, ho =>
          simp at ho; subst ho
          have e1 : a'.eval (.tmp 34) = r := hvals 5 _ (by kernel_rfl) rfl
          show ∀ S, _ → (execOp a'.eval _).run _ w' = .ok (.value r) w'
          rintro S -
          generalize a'.eval = ρ at *
          simp [execOp, go_sem, e1]
        | 7, ho =>
          simp at ho; subst ho
          have e1 : a'.eval (.tmp 28) = r := hvals 6 _ (by kernel_rfl) rfl
          show ∀ S, _ → (execOp a'.eval _).run _ w' = .ok (.value (exT 0 r)) w'
          rintro S ⟨a1, c1, a2, c2, rfl, _⟩
          generalize a'.eval = ρ at *
          simp [execOp, go_sem, e1, exT]
        | 8, ho =>
          simp at ho; subst ho
          have e1 : a'.eval (.tmp 28) = r := hvals 6 _ (by kernel_rfl) rfl
          show ∀ S, _ → (execOp a'.eval _).run _ w' = .ok (.value (exT 1 r)) w'
          rintro S ⟨a1, c1, a2, c2, rfl, _⟩
          generalize a'.eval = ρ at *
          simp [execOp, go_sem, e1, exT]
        | 9, ho =>
          simp at ho; subst ho
          have e1 : a'.eval (.tmp 28) = r := hvals 6 _ (by kernel_rfl) rfl
          show ∀ S, _ → (execOp a'.eval _).run _ w' = .ok (.value (exT 2 r)) w'
          rintro S ⟨a1, c1, a2, c2, rfl, _⟩
          generalize a'.eval = ρ at *
          simp [execOp, go_sem, e1, exT]
        | 10, ho =>
          simp at ho; subst ho
          show (execOp a'.eval _).run _ w' = .ok (.value _) _
          generalize a'.eval = ρ at *
          simp [execOp, go_sem]
        | 11, ho =>
          simp at ho; subst ho
          show (execOp a'.eval _).run _ w' = .ok (.value _) _
          generalize a'.eval = ρ at *
          simp [execOp, go_sem]
        | 12, ho =>
          simp at ho; subst ho
          have e1 : a'.eval (.tmp 35) = exT 0 r := hvals 7 _ (by kernel_rfl) rfl
          show ∀ S, _ → ∀ t z g C, _ → _ → _ → _ → ∃ w'', (execOp a'.eval _).run _ w' = .ok .skip w'' ∧ _
          rintro S ⟨a1, c1, a2, c2, rfl, _⟩ t z g C hz hC hs (e2 : a'.eval (.tmp 8) = _)
          cases hz
          obtain ⟨u0, q0⟩ := cells1 hC hs
          have q1 := hC.free 0
          obtain ⟨m1, m2, m3⟩ := set1 hC hs (.slice a1 nO c1)
          simp only [exT] at e1
          generalize a'.eval = ρ at *
          exact ⟨_, by simp [execOp, go_sem, e1, e2, q0, q1], m1, m2, rfl, m3, rfl, rfl, rfl⟩
        | 13, ho =>
          simp at ho; subst ho
          have e1 : a'.eval (.tmp 36) = exT 1 r := hvals 8 _ (by kernel_rfl) rfl
          show ∀ S, _ → ∀ t z g C, _ → _ → _ → _ → ∃ w'', (execOp a'.eval _).run _ w' = .ok .skip w'' ∧ _
          rintro S ⟨a1, c1, a2, c2, rfl, _⟩ t z g C hz hC hs (e2 : a'.eval (.tmp 9) = _)
          cases hz
          obtain ⟨u0, u1, u2, q0, q1, q2⟩ := cells3 hC hs
          have q3 := hC.free 0
          have q4 := hC.free 1
          have q5 := hC.free 2
          obtain ⟨m1, m2, m3⟩ := set3 hC hs (.int .i64 rT) (.bool rK) (.slice a2 nP c2)
          simp only [exT] at e1
          generalize a'.eval = ρ at *
          exact ⟨_, by simp [execOp, go_sem, e1, e2, q0, q1, q2, q3, q4, q5], m1, m2, rfl, m3, rfl, rfl, rfl⟩
        | 14, ho =>
          simp at ho; subst ho
          have e1 : a'.eval (.tmp 37) = exT 2 r := hvals 9 _ (by kernel_rfl) rfl
          show ∀ S, _ → (execOp a'.eval _).run _ w' = .ok (.value (exT 2 r)) w'
          rintro S ⟨a1, c1, a2, c2, rfl, _⟩
          simp only [exT] at e1
          generalize a'.eval = ρ at *
          simp [execOp, go_sem, e1, exT]
        | i + 15, ho => simp at ho
      case fin =>
        rintro r gs S W hb ⟨a1, c1, a2, c2, rfl, s1, s2, s3, s4⟩ hS hbox hap
        obtain ⟨p1, p2, C, p3, p4⟩ := hbox 10 _ _ (by decide) rfl
        have p5 := p4 12 _ (by decide) rfl
        subst p5
        obtain ⟨p6, p7, C, p8, p9⟩ := hbox 11 _ _ (by decide) rfl
        have p10 := p9 13 _ (by decide) rfl
        subst p10
        have KP : Hid (Blk W (gs 10) #[.slice a1 nO c1] 54) := p3
        have KQ : Hid (Blk W (gs 11) #[.int .i64 rT, .bool rK, .slice a2 nP c2] 52) := p8
        simp only [putK, Kd.out, exT]
        obtain ⟨p, hp⟩ : ∃ p, p = gs 10 := ⟨_, rfl⟩
        obtain ⟨q', hq'⟩ : ∃ q', q' = gs 11 := ⟨_, rfl⟩
        rw [← hp] at KP p1
        rw [← hq'] at KQ p6
        rw [← hp, ← hq']
        have k1 := KP.out.one
        have kb := HBL3.out.below hb hw2
        have k2 := kb.one
        have k3 := kb.free 0
        obtain ⟨k5, k6, k7⟩ := KQ.out.three
        have hpw : ¬ p = w.heap.size := by omega
        have hqw : ¬ q' = w.heap.size := by omega
        obtain ⟨V, hV⟩ : ∃ V, V = W.setCell ⟨w.heap.size, 0, none⟩ (.slice a1 nO c1) := ⟨_, rfl⟩
        have hVo : ∀ g, g ≠ w.heap.size → V.heap[g]? = W.heap[g]? := fun g hg => by rw [hV]; exact Below.heap_setCell _ _ _ _ hg
        have hVs : V.heap.size = W.heap.size := by rw [hV]; simp
        have BV : Hid (Below w.heap.size w V) := by
          rw [hV]; exact (HB3.out.trans (hb.mono HB3.out.size)).setCell (by simp) _
        have KBV : Hid (Blk V w.heap.size #[.slice a1 nO c1] 54) := by rw [hV]; exact kb.set 0 _
        have KQV : Hid (Blk V q' #[.int .i64 rT, .bool rK, .slice a2 nP c2] 52) := (hVo q' hqw).trans KQ.out
        have SV : Hid (Sls V (.slice a1 nO c1) rO) := Sl.same s1 (by omega) (fun g hg => hVo g (by have := (s2 g hg).2.1; omega))
        have GV : Hid (Good V (⟨rT, rK, rP⟩, .slice a2 nP c2)) := ⟨Sl.same s3 (by omega) (fun g hg => by obtain ⟨_, cur, e⟩ := s4 g hg; exact hVo g (Apart_type e kb (by decide))), HPL.out, fun g hg => by obtain ⟨_, cur, e⟩ := s4 g hg; exact ⟨cur, (hVo g (Apart_type e kb (by decide))).trans e⟩⟩
        have OV : Hid (Outs w.heap.size V (.slice au m cu) F) := (HOF3.out.below hb).same (by omega) (fun g cur e => hVo g (Apart_type e kb (by decide))) (fun g cur e => hVo g (Apart_type e kb (by decide)))
        have DV : Hid (∀ g, (Value.slice a1 nO c1).ownBlock = some g → w.heap.size < g ∧ g < V.heap.size ∧ some g ≠ (Value.slice au m cu).ownBlock) := fun g hg => ⟨by have := (s2 g hg).2.1; omega, by have := (s2 g hg).2.2; omega, fun e => by have := HDO3.out g e.symm; have := (s2 g hg).2.1; omega⟩
        have HRC : Hid (∀ y ∈ rO, y.chk = 0) := fun y hy => by rw [HRO.out] at hy; exact (addO_mem hy).elim (HOC.out y) (fun e => by rw [e]; exact HXC.out)
        have HRL : Hid (rO.length ≤ 3) := by show _ ≤ _; rw [HRO.out]; exact addO_len O x HO3.out
        clear hp hq' s1 s2 s3 s4 hS hbox hap p2 p3 p4 p7 p8 p9 KP KQ hVo
        clear kb hb
        cases rW
        · subst hV
          go_wp2_with fail
          go_roundw
          case rel =>
            have e : upA l (k + 1) = (rO, F) := by rw [HUP.out, HST.out]; rfl
            refine ⟨k + 1, _, .slice a1 nO c1, by omega, by go_num, rfl, ?_⟩
            rw [e]
            exact ⟨OV, KBV, SV, DV, HRL, (show F.length ≤ k + 1 by have := HLN.out; omega), HRC, HCA2, BV⟩
          case measure => simp [intOf]; omega
        · obtain ⟨ps, hp1, hp2, hp3⟩ := OV.out
          have hpl : ps.length = m := by rw [HM.out, ← hp1, List.length_map]
          rw [hpl] at hp2
          have HP1 : Hid (ps.map Prod.fst = F) := hp1
          have HP3 : Hid (∀ p ∈ ps, Good V p) := hp3
          have HPN : Hid (ps.length = m) := hpl
          have OW3 : Hid (V.ownsRow w.heap.size 52 3 (.slice au m cu) m (frCells ps)) := hp2
          clear hp1 hp2 hp3 hpl
          have own1 : Hid ((V.alloc (.cells #[.int .i64 rT, .bool rK, .slice a2 nP c2] 52)).ownsRow w.heap.size 52 3 (.slice au m cu) m (frCells ps)) := OW3.out.alloc _
          have new1 : Hid (∀ j u, [Value.int .i64 rT, .bool rK, .slice a2 nP c2][j]? = some u → (V.alloc (.cells #[.int .i64 rT, .bool rK, .slice a2 nP c2] 52)).cell? ((⟨W.heap.size, 0, none⟩ : Addr).add j) = some u) := fun j u hj => by
            rw [← hVs]
            have hb := Blk.new V #[.int .i64 rT, .bool rK, .slice a2 nP c2] 52
            match j, hj with
            | 0, hj => simp at hj; subst hj; exact hb.three.1
            | 1, hj => simp at hj; subst hj; exact hb.three.2.1
            | 2, hj => simp at hj; subst hj; exact hb.three.2.2
          have one1 : Hid (∀ u ∈ [Value.int .i64 rT, .bool rK, .slice a2 nP c2], u.oneCell' = true) := fun u hu => by
            simp at hu
            rcases hu with rfl | rfl | rfl <;> rfl
          have l1 : Hid (m + 1 ≤ maxLen) := by show _ ≤ _; unfold maxLen; omega
          have l2 : Hid ((m + 1) * 40 ≤ 140737488355328) := by show _ ≤ _; omega
          have l3 : Hid (w.heap.size ≤ (V.alloc (.cells #[.int .i64 rT, .bool rK, .slice a2 nP c2] 52)).heap.size) := by show _ ≤ _; have := BV.out.size; simp; omega
          have aft : Hid (∀ v' w4, w4.ownsRow w.heap.size 52 3 v' (m + 1) (frCells ps ++ [Value.int .i64 rT, .bool rK, .slice a2 nP c2]) → (V.alloc (.cells #[.int .i64 rT, .bool rK, .slice a2 nP c2] 52)).grownBy w4 (Value.slice au m cu).ownBlock → (v'.ownBlock = (Value.slice au m cu).ownBlock ∨ ∀ g, v'.ownBlock = some g → (V.alloc (.cells #[.int .i64 rT, .bool rK, .slice a2 nP c2] 52)).heap.size ≤ g) →
              Hid (Outs w.heap.size w4 v' (F ++ [⟨rT, rK, rP⟩])) ∧ Hid (Blk w4 w.heap.size #[.slice a1 nO c1] 54) ∧ Hid (Sls w4 (.slice a1 nO c1) rO) ∧ Hid (∀ g, (Value.slice a1 nO c1).ownBlock = some g → w.heap.size < g ∧ g < w4.heap.size ∧ some g ≠ v'.ownBlock) ∧ Hid (Below w.heap.size w w4)) := fun v' w4 ho4 hg4 hd4 => by
            have hsz := hg4.size
            simp only [World.size_alloc] at hsz
            have hown : ∀ g cur ty, Blk V g cur ty → ty ≠ 52 → w4.heap[g]? = V.heap[g]? := fun g cur ty hc hne => by
              rw [hg4.block g (by have := hc.lt; simp; omega) (fun e => by obtain ⟨_, cur2, h2⟩ := owns_blk OW3.out e.symm; exact Apart_type hc h2 hne rfl), Below.heap_alloc _ _ _ hc.lt]
            refine ⟨⟨ps ++ [(⟨rT, rK, rP⟩, .slice a2 nP c2)], by rw [List.map_append, HP1.out]; rfl, ?_, fun p hp => ?_⟩, ?_, ?_, ?_, ?_⟩
            · rw [List.length_append, HPN.out, frCells_append]
              exact ho4
            · rcases List.mem_append.1 hp with hp | hp
              · exact (HP3.out p hp).same (by omega) (fun g cur hc => hown g cur _ hc (by decide))
              · simp at hp
                subst hp
                exact GV.out.same (by omega) (fun g cur hc => hown g cur _ hc (by decide))
            · exact (hown _ _ _ KBV.out (by decide)).trans KBV.out
            · refine Sl.same SV.out (by omega) (fun g hg => ?_)
              obtain ⟨q1, q2, q3⟩ := DV.out g hg
              rw [hg4.block g (by simp; omega) q3, Below.heap_alloc _ _ _ q2]
            · intro g hg
              obtain ⟨q1, q2, q3⟩ := DV.out g hg
              refine ⟨q1, by omega, fun e => ?_⟩
              rcases hd4 with h | h
              · rw [h] at e; exact q3 e
              · have := h g e.symm; simp at this; omega
            · exact (BV.out.alloc BV.out.size _).grown hg4 (by have := BV.out.size; simp; omega) (fun j hj => (OW3.out.lt j hj).1)
          clear OW3
          subst hV
          go_wp2_with (at_builtin; refine wpList_append_own2 _ rfl _ _ 57 rfl w.heap.size 52 i0 _ 3 40 Try.underlying57 hi hz0 hz1 hz2 rfl (by decide) _ m (frCells ps) rfl own1.out ⟨W.heap.size, 0, none⟩ 1 1 [Value.int .i64 rT, .bool rK, .slice a2 nP c2] rfl rfl new1.out one1.out l1.out l2.out l3.out ?_; intro v' w4 ho4 hg4 hd4; have AF : Hid _ := aft.out v' w4 ho4 hg4 hd4; clear ho4 hg4 hd4)
          go_roundw
          case rel =>
            have e : upA l (k + 1) = (rO, F ++ [⟨rT, rK, rP⟩]) := by rw [HUP.out, HST.out]; rfl
            obtain ⟨z1, z2, z3, z4, z5⟩ := AF.out
            refine ⟨k + 1, _, .slice a1 nO c1, by omega, by go_num, rfl, ?_⟩
            rw [e]
            exact ⟨z1, z2, z3, z4, HRL, (show (F ++ [_]).length ≤ k + 1 by have := HLN.out; simp; omega), HRC, HCA2, z5⟩
          case measure => simp [intOf]; omega
    · have hkl : k = n := by omega
      subst hkl
      obtain ⟨au, cu, eu⟩ := HOut.out.len
      obtain ⟨m, hm⟩ : ∃ m, m = (upA l k).2.length := ⟨_, rfl⟩
      rw [← hm] at eu
      subst eu
      have hE0 : E = 0 := by
        have h := HCA.out
        rw [HN.out, List.take_length] at h
        rw [HE2.out, h]
      have OUT : Hid (Outs w.heap.size wr (.slice au m cu) R) := by
        show Outs _ _ _ _
        rw [HR.out, hE0, if_pos rfl]
        exact HOut.out
      have HE0 : Hid (E = 0) := hE0
      clear HOut hm hE0
      go_wp2
      exact bodyPost_ret (v := .tuple #[.slice au m cu, .int .i64 0]) (by simp [results, Try.results28, go_sem]) rfl ⟨_, by rw [HE0.out], OUT.out, HB.out⟩

end Go.Proofs.Ytdcdfpjjdobmhab
