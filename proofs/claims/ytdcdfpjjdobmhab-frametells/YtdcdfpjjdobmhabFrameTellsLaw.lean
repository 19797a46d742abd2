/-
  The walk of switchbacklaw.FrameTells.
-/
import Derived.Test.YtdcdfpjjdobmhabFrameBegun
import Derived.Test.YtdcdfpjjdobmhabRefFrames
import Derived.Test.YtdcdfpjjdobmhabRefFrame
namespace Go.Proofs.Ytdcdfpjjdobmhab
open Go.RowKit Go.Sort

theorem Outs.bound {base : Nat} {w : World} {v : Value} {l : List Fr} (h : Outs base w v l) : l.length ≤ 9223372036854775807 := by
  obtain ⟨ps, hp, ⟨_, ⟨_, h0⟩ | ⟨g, cap, cur, _, _, _, h1, h2, _⟩⟩, _⟩ := h
  · rw [← hp, List.length_map, h0]; omega
  · rw [← hp, List.length_map]; unfold maxLen at h2; omega
theorem addR_len (l : List Sk) (x : Sk) : (addR l x).o.length ≤ 3 ∧ (addR l x).p.length ≤ 4 := by
  by_cases hE : addE l x = 0
  · have h3 := (addE_zero hE).2.2.1
    unfold addR; rw [if_pos hE]
    exact ⟨addO_len l x h3, addP_len l x h3⟩
  · unfold addR; rw [if_neg hE]; exact ⟨Nat.zero_le _, Nat.zero_le _⟩
theorem sameB_refl (l : List Sk) : sameB l l = true := (sameB_iff l l).2 rfl
theorem sameFs_refl (l : List Fr) : sameFs l l = true := decide_eq_true rfl
theorem sameFB_refl (t : Int) (k : Bool) (l : List ByteArray) : sameFB t t k k l l = true := (sameFB_iff ⟨t, k, l⟩ ⟨t, k, l⟩).2 rfl

set_option maxHeartbeats 4000000 in
set_option maxRecDepth 100000 in
theorem frameTells_any (ft : Int) (fk : Bool) (pv : Value) (fp : List ByteArray) (bv : Value) (bl : List Sk) (x : Sk) (lv : Value) (l : List Sk) (w : World) (hp : Strs w pv fp) (hpl : fp.length ≤ 9223372036854775807) (hb : Sls w bv bl) (hbl : bl.length ≤ 9223372036854775807) (hl : Sls w lv l) (hll : l.length ≤ 9223372036854775807) :
    Calls Try.prog 7 #[.agg #[.int .i64 ft, .bool fk, pv], .agg #[bv], x.val, lv] w fun e w' => e = .returned (.bool true) ∧ Below w.heap.size w w' := by
  obtain ⟨pa, pc, ep⟩ := hp.len
  obtain ⟨ba, bc, eb⟩ := hb.len
  obtain ⟨la, lc, el⟩ := hl.len
  obtain ⟨pn, hpn⟩ : ∃ n, n = fp.length := ⟨_, rfl⟩
  obtain ⟨bn, hbn⟩ : ∃ n, n = bl.length := ⟨_, rfl⟩
  obtain ⟨ln, hln⟩ : ∃ n, n = l.length := ⟨_, rfl⟩
  rw [← hpn] at ep
  rw [← hbn] at eb
  rw [← hln] at el
  obtain ⟨R, hR⟩ : ∃ R, R = addR bl x := ⟨_, rfl⟩
  obtain ⟨E, hE⟩ : ∃ E, E = addE bl x := ⟨_, rfl⟩
  obtain ⟨rO, rT, rK, rP, rW⟩ := R
  obtain ⟨nO, hnO⟩ : ∃ n, n = rO.length := ⟨_, rfl⟩
  obtain ⟨nP, hnP⟩ : ∃ n, n = rP.length := ⟨_, rfl⟩
  obtain ⟨G, hG⟩ : ∃ G, G = framesE l := ⟨_, rfl⟩
  obtain ⟨FR, hFR⟩ : ∃ FR, FR = framesR l := ⟨_, rfl⟩
  obtain ⟨nF, hnF⟩ : ∃ n, n = FR.length := ⟨_, rfl⟩
  obtain ⟨O, hO⟩ : ∃ O, O = ochk bl := ⟨_, rfl⟩
  obtain ⟨Ck, hCk⟩ : ∃ Ck, Ck = chkF ft fp := ⟨_, rfl⟩
  have hOl := (addR_len bl x).1
  have hPl := (addR_len bl x).2
  rw [← hR] at hOl hPl
  have HOL : Hid (rO.length ≤ 3) := hOl
  have HPL : Hid (rP.length ≤ 4) := hPl
  have HA : Hid (∀ w' : World, Sls w' bv bl → Calls Try.prog 24 #[.agg #[bv], .agg #[.int .i64 x.n, .int .i64 x.p.seq, .int .i64 x.p.time, .bool x.p.f, .bool x.p.e, .bool x.p.k, .string x.p.t]] w' fun e w'' => ∃ a1 c1 a2 c2, e = .returned (.tuple #[.agg #[.slice a1 nO c1], .agg #[.int .i64 rT, .bool rK, .slice a2 nP c2], .bool rW, .int .i64 E]) ∧ Hid (Sls w'' (.slice a1 nO c1) rO) ∧ Hid (Strs w'' (.slice a2 nP c2) rP) ∧ Below w'.heap.size w' w'') := fun w' hs => by
    refine (frameAdd_any bv bl x w' hs hbl).mono ?_
    rw [← hR, ← hE]
    rintro e w'' ⟨ov, qv, rfl, ⟨h1, h2, _⟩, hb⟩
    obtain ⟨a1, c1, rfl⟩ := h1.len
    obtain ⟨a2, c2, rfl⟩ := h2.len
    simp only at h1 h2
    rw [← hnO] at h1
    rw [← hnP] at h2
    simp only [← hnO, ← hnP]
    exact ⟨a1, c1, a2, c2, rfl, h1, h2, hb⟩
  have HAO : Hid (E = 0 → ∀ w' : World, Sls w' bv bl → Calls Try.prog 27 #[.agg #[bv], .agg #[.int .i64 x.n, .int .i64 x.p.seq, .int .i64 x.p.time, .bool x.p.f, .bool x.p.e, .bool x.p.k, .string x.p.t]] w' fun e w'' => ∃ a1 c1 a2 c2, e = .returned (.tuple #[.agg #[.slice a1 nO c1], .agg #[.int .i64 rT, .bool rK, .slice a2 nP c2], .bool rW]) ∧ Hid (Sls w'' (.slice a1 nO c1) rO) ∧ Hid (Strs w'' (.slice a2 nP c2) rP) ∧ Hid (∀ g, (Value.slice a1 nO c1).ownBlock = some g → w'.heap.size ≤ g) ∧ Hid (∀ g, (Value.slice a2 nP c2).ownBlock = some g → w'.heap.size ≤ g) ∧ Below w'.heap.size w' w'') := fun h0 w' hs => by
    have hz := addE_zero (hE ▸ h0 : addE bl x = 0)
    have hr : addR bl x = ⟨addO bl x, addT bl x, addK bl x, addP bl x, addW bl x⟩ := by unfold addR; rw [if_pos (hE ▸ h0)]
    rw [← hR] at hr
    injection hr with r1 r2 r3 r4 r5
    refine (addOf_any bv bl x w' hs hz.2.2.1 hz.2.2.2).mono ?_
    rw [← r1, ← r2, ← r3, ← r4, ← r5]
    rintro e w'' ⟨ov, qv, rfl, h1, h2, h3, h4, hb⟩
    obtain ⟨a1, c1, rfl⟩ := h1.len
    obtain ⟨a2, c2, rfl⟩ := h2.len
    rw [← hnO] at h1 h4
    rw [← hnP] at h2 h3
    simp only [← hnO, ← hnP]
    exact ⟨a1, c1, a2, c2, rfl, h1, h2, fun g hg => (h4 g hg).1, fun g hg => (h3 g hg).1, hb⟩
  have HAll : Hid (∀ w' : World, Sls w' lv l → Calls Try.prog 25 #[lv] w' fun e w'' => ∃ a c, e = .returned (.tuple #[.slice a nF c, .int .i64 G]) ∧ Hid (Frs w'' (.slice a nF c) FR) ∧ Hid (FR.length ≤ 9223372036854775807) ∧ Below w'.heap.size w' w'') := fun w' hs => by
    refine (frameAll_any lv l w' hs hll).mono ?_
    rw [← hG, ← hFR]
    rintro e w'' ⟨u, rfl, ho, hb⟩
    obtain ⟨a, c, rfl⟩ := ho.len
    rw [← hnF] at ho ⊢
    exact ⟨a, c, rfl, ho.frs, (show nF ≤ _ by rw [hnF]; exact ho.bound), hb⟩
  have HFo : Hid (∀ w' : World, Sls w' lv l → Calls Try.prog 28 #[lv] w' fun e w'' => ∃ a c, e = .returned (.tuple #[.slice a nF c, .int .i64 G]) ∧ Hid (Frs w'' (.slice a nF c) FR) ∧ Below w'.heap.size w' w'') := fun w' hs => by
    refine (framesOf_any lv l w' hs hll).mono ?_
    rw [← hG, ← hFR]
    rintro e w'' ⟨u, rfl, ho, hb⟩
    obtain ⟨a, c, rfl⟩ := ho.len
    rw [← hnF] at ho ⊢
    exact ⟨a, c, rfl, ho.frs, hb⟩
  have HCB : Hid (∀ w' : World, Sls w' bv bl → Calls Try.prog 26 #[.agg #[bv]] w' fun e w'' => e = .returned (.int .i64 O) ∧ Below w'.heap.size w' w'') := fun w' hs => by rw [hO]; exact refCheckBuilder_any bv bl w' hs hbl
  have HCS : Hid (O = 0 → ∀ w' : World, Calls Try.prog 16 #[.agg #[.int .i64 x.n, .int .i64 x.p.seq, .int .i64 x.p.time, .bool x.p.f, .bool x.p.e, .bool x.p.k, .string x.p.t]] w' fun e w'' => e = .returned (.int .i64 E) ∧ Below w'.heap.size w' w'') := fun h0 w' => by
    rw [hE]; unfold addE; rw [if_pos (hO ▸ h0)]; exact refSlot_any x w'
  have HEO : Hid (¬ O = 0 → E = O) := fun h => by rw [hE, hO]; unfold addE; rw [if_neg (hO ▸ h)]
  have HEN : Hid (¬ E = 0 → rO = [] ∧ rT = 0 ∧ rK = false ∧ rP = [] ∧ rW = false) := fun h => by
    have hr : addR bl x = ⟨[], 0, false, [], false⟩ := by unfold addR; rw [if_neg (hE ▸ h)]
    rw [← hR] at hr
    injection hr with r1 r2 r3 r4 r5
    exact ⟨r1, r2, r3, r4, r5⟩
  have HCF : Hid (∀ w' : World, Strs w' pv fp → Calls Try.prog 30 #[.agg #[.int .i64 ft, .bool fk, pv]] w' fun e w'' => e = .returned (.int .i64 Ck) ∧ Below w'.heap.size w' w'') := fun w' hs => by rw [hCk]; exact frameCheck_any ft fk pv fp w' hs hpl
  have HCR : Hid (∀ w' : World, Strs w' pv fp → Calls Try.prog 31 #[.agg #[.int .i64 ft, .bool fk, pv]] w' fun e w'' => e = .returned (.int .i64 Ck) ∧ Below w'.heap.size w' w'') := fun w' hs => by rw [hCk]; exact refCheckFrame_any ft fk pv fp w' hs hpl
  have HNO : Hid (nO = rO.length) := hnO
  have HNP : Hid (nP = rP.length) := hnP
  have HP0 : Hid (Strs w pv fp) := hp
  have HB0 : Hid (Sls w bv bl) := hb
  have HL0 : Hid (Sls w lv l) := hl
  clear hp hb hl hR hE hnO hnP hG hFR hnF hO hCk hOl hPl hpn hbn hln hpl hbl hll
  subst ep eb el
  simp only [Sk.val]
  go_enter Try.func7, Try.ntmps7
  go_wp2_with fail
  refine (HA.out _ (((HB0.out.alloc _).alloc _).alloc _)).mono ?_
  rintro e w1 ⟨a1, c1, a2, c2, rfl, s1, t1, hb1⟩
  obtain ⟨kf, kb, kx, bb1, hs1⟩ := blocks3 hb1
  have KF : Hid (Blk w1 w.heap.size #[.int .i64 ft, .bool fk, .slice pa pn pc] 52) := kf
  have KB : Hid (Blk w1 (w.heap.size + 1) #[.slice ba bn bc] 54) := kb
  have KX : Hid (Blk w1 (w.heap.size + 1 + 1) #[.int .i64 x.n, .int .i64 x.p.seq, .int .i64 x.p.time, .bool x.p.f, .bool x.p.e, .bool x.p.k, .string x.p.t] 35) := kx
  have B1 : Hid (Below w.heap.size w w1) := bb1
  clear hb1 kf kb kx bb1 HA
  go_wp2_with fail
  refine (HAll.out _ (HL0.out.below ((B1.out.alloc B1.out.size _).alloc (by have := B1.out.size; simp; omega) _))).mono ?_
  rintro e w2 ⟨a3, c3, rfl, s3, hFl, hb2⟩
  obtain ⟨ka, kg, bb2, hs2⟩ := blocks2 hb2
  have KA : Hid (Blk w2 w1.heap.size #[.slice a1 nO c1] 54) := ka
  have KG : Hid (Blk w2 (w1.heap.size + 1) #[.int .i64 rT, .bool rK, .slice a2 nP c2] 52) := kg
  have KF2 : Hid _ := Blk.below KF.out bb2 (Blk.lt KF.out)
  have KB2 : Hid _ := Blk.below KB.out bb2 (Blk.lt KB.out)
  have KX2 : Hid _ := Blk.below KX.out bb2 (Blk.lt KX.out)
  have S1 : Hid (Sls w2 (.slice a1 nO c1) rO) := s1.out.below bb2
  have T1 : Hid (Strs w2 (.slice a2 nP c2) rP) := t1.out.below bb2
  have B2 : Hid (Below w.heap.size w w2) := B1.out.trans (bb2.mono B1.out.size)
  have hw12 : w.heap.size + 1 + 1 < w1.heap.size := by omega
  have k0 := Blk.one KB2.out
  clear hb2 ka kg bb2 KF KB KX s1 t1 B1 HAll
  go_wp2_with fail
  refine (HCB.out _ (HB0.out.below B2.out)).mono ?_
  rintro e w3 ⟨rfl, hb3⟩
  have KA3 : Hid (Blk w3 w1.heap.size #[.slice a1 nO c1] 54) := Blk.below KA.out hb3 (Blk.lt KA.out)
  have KG3 : Hid (Blk w3 (w1.heap.size + 1) #[.int .i64 rT, .bool rK, .slice a2 nP c2] 52) := Blk.below KG.out hb3 (Blk.lt KG.out)
  have KF3 : Hid (Blk w3 w.heap.size #[.int .i64 ft, .bool fk, .slice pa pn pc] 52) := Blk.below KF2.out hb3 (Blk.lt KF2.out)
  have KB3 : Hid (Blk w3 (w.heap.size + 1) #[.slice ba bn bc] 54) := Blk.below KB2.out hb3 (Blk.lt KB2.out)
  have KX3 : Hid (Blk w3 (w.heap.size + 1 + 1) #[.int .i64 x.n, .int .i64 x.p.seq, .int .i64 x.p.time, .bool x.p.f, .bool x.p.e, .bool x.p.k, .string x.p.t] 35) := Blk.below KX2.out hb3 (Blk.lt KX2.out)
  have S13 : Hid (Sls w3 (.slice a1 nO c1) rO) := S1.out.below hb3
  have T13 : Hid (Strs w3 (.slice a2 nP c2) rP) := T1.out.below hb3
  have S33 : Hid (Frs w3 (.slice a3 nF c3) FR) := s3.out.below hb3
  have B3 : Hid (Below w.heap.size w w3) := B2.out.trans (hb3.mono B2.out.size)
  clear hb3 KA KG KF2 KB2 KX2 S1 T1 B2 s3 k0 HCB
  go_upto_if 37 with fail
  go_cut [15] (fun s15 wc => s15 = .int .i64 E ∧ Hid (Below w3.heap.size w3 wc))
  case first =>
    by_cases hO : O = 0
    · have hcs := HCS.out hO
      have HCS2 : Hid _ := hcs
      subst hO
      obtain ⟨y0, y1, y2, y3, y4, y5, y6⟩ := Blk.seven KX3.out
      go_wp2_with fail
      refine (HCS2.out _).mono ?_
      rintro e w4 ⟨rfl, hb4⟩
      have B4 : Hid (Below w3.heap.size w3 w4) := hb4
      clear hb4 y0 y1 y2 y3 y4 y5 y6
      go_wp2_with fail
      go_meet
      case rel => exact ⟨rfl, B4⟩
    · have HEO2 : Hid (E = O) := HEO.out hO
      go_wp2_with fail
      go_meet
      case rel => exact ⟨by rw [HEO2.out], Below.refl _ _⟩
  case rest =>
    obtain ⟨rfl, BC⟩ := hcut
    have KXc : Hid _ := Blk.below KX3.out BC.out (Blk.lt KX3.out)
    have KBc : Hid _ := Blk.below KB3.out BC.out (Blk.lt KB3.out)
    have Bc : Hid (Below w.heap.size w wc) := B3.out.trans (BC.out.mono B3.out.size)
    obtain ⟨V, hV⟩ : ∃ V, V = (wc.alloc (.cells #[.slice none 0 0] 54)).alloc (.cells #[.int .i64 0, .bool false, .slice none 0 0] 52) := ⟨_, rfl⟩
    obtain ⟨kw, km, bbV, hsV⟩ := blocks2 (w := wc) (w1 := V) (by rw [hV]; exact Below.refl _ _)
    have KW : Hid (Blk V wc.heap.size #[.slice none 0 0] 54) := kw
    have KM : Hid (Blk V (wc.heap.size + 1) #[.int .i64 0, .bool false, .slice none 0 0] 52) := km
    have BV : Hid (Below w3.heap.size w3 V) := BC.out.trans (bbV.mono BC.out.size)
    go_upto_if 41 with fail
    rw [← hV]
    clear hV kw km bbV
    go_cut [18] (fun s18 wd => ∃ a4 c4 a5 c5, s18 = .bool rW ∧ Hid (Blk wd wc.heap.size #[.slice a4 nO c4] 54) ∧ Hid (Blk wd (wc.heap.size + 1) #[.int .i64 rT, .bool rK, .slice a5 nP c5] 52) ∧ Hid (Sls wd (.slice a4 nO c4) rO) ∧ Hid (Strs wd (.slice a5 nP c5) rP) ∧ Hid (Below w3.heap.size w3 wd))
    case first =>
      by_cases hE : E = 0
      · have HAO2 : Hid _ := HAO.out hE
        subst hE
        obtain ⟨y0, y1, y2, y3, y4, y5, y6⟩ := Blk.seven (Blk.below KX3.out BV.out (Blk.lt KX3.out))
        have k0 := Blk.one (Blk.below KB3.out BV.out (Blk.lt KB3.out))
        go_wp2_with fail
        refine (HAO2.out _ (HB0.out.below (B3.out.trans (BV.out.mono B3.out.size)))).mono ?_
        rintro e w5 ⟨a4, c4, a5, c5, rfl, s5, t5, f5, g5, hb5⟩
        have kw := Blk.below KW.out hb5 (Blk.lt KW.out)
        have km := Blk.below KM.out hb5 (Blk.lt KM.out)
        have z0 := kw.one
        obtain ⟨z1, z2, z3⟩ := km.three
        have zf := kw.free
        have zm := km.free
        have hne : ¬ wc.heap.size + 1 = wc.heap.size := by omega
        have FIN : Hid (∀ U : World, Hid (U = (((w5.setCell ⟨wc.heap.size, 0, none⟩ (.slice a4 nO c4)).setCell ⟨wc.heap.size + 1, 0, none⟩ (.int .i64 rT)).setCell ⟨wc.heap.size + 1, 1, none⟩ (.bool rK)).setCell ⟨wc.heap.size + 1, 2, none⟩ (.slice a5 nP c5)) → Hid (Blk U wc.heap.size #[.slice a4 nO c4] 54) ∧ Hid (Blk U (wc.heap.size + 1) #[.int .i64 rT, .bool rK, .slice a5 nP c5] 52) ∧ Hid (Sls U (.slice a4 nO c4) rO) ∧ Hid (Strs U (.slice a5 nP c5) rP) ∧ Hid (Below w3.heap.size w3 U)) := fun U hU => by
          have hsz : U.heap.size = w5.heap.size := by rw [hU.out]; simp
          have hoth : ∀ j, j ≠ wc.heap.size → j ≠ wc.heap.size + 1 → U.heap[j]? = w5.heap[j]? := fun j h1 h2 => by
            rw [hU.out, Below.heap_setCell _ _ _ _ (by exact h2), Below.heap_setCell _ _ _ _ (by exact h2), Below.heap_setCell _ _ _ _ (by exact h2), Below.heap_setCell _ _ _ _ (by exact h1)]
          have hlo := Blk.lt KM.out
          have hc := BC.out.size
          refine ⟨?_, ?_, ?_, ?_, ?_⟩
          · rw [hU.out]; exact (((kw.set 0 _).other (by simp) _).other (by simp) _).other (by simp) _
          · rw [hU.out]; exact (((km.other (by simp) _).set 0 _).set 1 _).set 2 _
          · exact Sl.same s5.out (by omega) (fun g hg => hoth g (by have := f5.out g hg; omega) (by have := f5.out g hg; omega))
          · exact Sl.same t5.out (by omega) (fun g hg => hoth g (by have := g5.out g hg; omega) (by have := g5.out g hg; omega))
          · have b5 : Below w3.heap.size w3 w5 := BV.out.trans (hb5.mono BV.out.size)
            rw [hU.out]
            exact (((b5.setCell (by exact hc) _).setCell (by show _ ≤ wc.heap.size + 1; omega) _).setCell (by show _ ≤ wc.heap.size + 1; omega) _).setCell (by show _ ≤ wc.heap.size + 1; omega) _
        clear hb5 kw km s5 t5 f5 g5 y0 y1 y2 y3 y4 y5 y6 k0
        go_wp2_with fail
        go_meet
        case rel => exact ⟨a4, c4, a5, c5, rfl, FIN.out _ rfl⟩
      · obtain ⟨q1, q2, q3, q4, q5⟩ := HEN.out hE
        subst q1 q2 q3 q4 q5
        have hn1 : nO = 0 := HNO.out
        have hn2 : nP = 0 := HNP.out
        subst hn1 hn2
        go_wp2_with fail
        go_meet
        case rel => exact ⟨none, 0, none, 0, rfl, KW, KM, Sls.nil _, Strs.nil _, BV⟩
    case rest =>
      obtain ⟨a4, c4, a5, c5, rfl, KWd, KMd, SWd, TMd, BD⟩ := hcut
      have hl3 := Blk.lt KMd.out
      go_wp2_with fail
      refine (HFo.out _ (HL0.out.below (B3.out.trans (BD.out.mono B3.out.size)))).mono ?_
      rintro e w6 ⟨a6, c6, rfl, s6, hb6⟩
      have B36 : Hid (Below w3.heap.size w3 w6) := BD.out.trans (hb6.mono BD.out.size)
      have KW6 := Blk.below KWd.out hb6 (Blk.lt KWd.out)
      have KM6 := Blk.below KMd.out hb6 (Blk.lt KMd.out)
      have KA6 := Blk.below KA3.out B36.out (Blk.lt KA3.out)
      have KG6 := Blk.below KG3.out B36.out (Blk.lt KG3.out)
      have KF6 := Blk.below KF3.out B36.out (Blk.lt KF3.out)
      have S16 : Sls w6 (.slice a1 nO c1) rO := S13.out.below B36.out
      have T16 : Strs w6 (.slice a2 nP c2) rP := T13.out.below B36.out
      have S36 : Frs w6 (.slice a3 nF c3) FR := S33.out.below B36.out
      have S46 : Sls w6 (.slice a4 nO c4) rO := SWd.out.below hb6
      have T56 : Strs w6 (.slice a5 nP c5) rP := TMd.out.below hb6
      have B6 : Hid (Below w.heap.size w w6) := B3.out.trans (B36.out.mono B3.out.size)
      have P6 : Strs w6 (.slice pa pn pc) fp := HP0.out.below B6.out
      have m0 := cell_regrown KF6.three.1
      have m1 := cell_regrown KF6.three.2.1
      have m2 := cell_regrown KF6.three.2.2
      have m3 := cell_regrown KA6.one
      have m4 := cell_regrown KW6.one
      have m5 := cell_regrown KG6.three.1
      have m6 := cell_regrown KG6.three.2.1
      have m7 := cell_regrown KG6.three.2.2
      have m8 := cell_regrown KM6.three.1
      have m9 := cell_regrown KM6.three.2.1
      have m10 := cell_regrown KM6.three.2.2
      have cF1 : ∀ d os, Calls Try.prog 29 #[] (grow (redrawn w6 d) os) fun e w'' => e = .returned (.bool true) ∧ ∃ p : Regrown, w'' = grow (redrawn w6 p.d) p.os := fun d os => Calls.regrown_of (frameBegun_any _)
      have cF2 : ∀ d os, Calls Try.prog 30 #[.agg #[.int .i64 ft, .bool fk, .slice pa pn pc]] (grow (redrawn w6 d) os) fun e w'' => e = .returned (.int .i64 Ck) ∧ ∃ p : Regrown, w'' = grow (redrawn w6 p.d) p.os := fun d os => Calls.regrown_of (HCF.out _ (P6.below (below_regrown w6 d os)))
      have cF3 : ∀ d os, Calls Try.prog 31 #[.agg #[.int .i64 ft, .bool fk, .slice pa pn pc]] (grow (redrawn w6 d) os) fun e w'' => e = .returned (.int .i64 Ck) ∧ ∃ p : Regrown, w'' = grow (redrawn w6 p.d) p.os := fun d os => Calls.regrown_of (HCR.out _ (P6.below (below_regrown w6 d os)))
      have cF4 : ∀ d os, Calls Try.prog 23 #[.slice a1 nO c1, .slice a4 nO c4] (grow (redrawn w6 d) os) fun e w'' => e = .returned (.bool true) ∧ ∃ p : Regrown, w'' = grow (redrawn w6 p.d) p.os := fun d os => Calls.regrown_of (by
        have := sameSlots_any _ _ rO rO _ (S16.below (below_regrown w6 d os)) (S46.below (below_regrown w6 d os)) (by have := HOL.out; omega)
        rw [sameB_refl] at this; exact this)
      have cF5 : ∀ d os, Calls Try.prog 32 #[.agg #[.int .i64 rT, .bool rK, .slice a2 nP c2], .agg #[.int .i64 rT, .bool rK, .slice a5 nP c5]] (grow (redrawn w6 d) os) fun e w'' => e = .returned (.bool true) ∧ ∃ p : Regrown, w'' = grow (redrawn w6 p.d) p.os := fun d os => Calls.regrown_of (by
        have := sameFrame_any rT rT rK rK _ _ rP rP _ (T16.below (below_regrown w6 d os)) (T56.below (below_regrown w6 d os)) (by have := HPL.out; omega)
        rw [sameFB_refl] at this; exact this)
      have cF6 : ∀ d os, Calls Try.prog 33 #[.slice a3 nF c3, .slice a6 nF c6] (grow (redrawn w6 d) os) fun e w'' => e = .returned (.bool true) ∧ ∃ p : Regrown, w'' = grow (redrawn w6 p.d) p.os := fun d os => Calls.regrown_of (by
        have := sameFrames_any _ _ FR FR _ (S36.below (below_regrown w6 d os)) (s6.out.below (below_regrown w6 d os)) hFl.out
        rw [sameFs_refl] at this; exact this)
      clear KW6 KM6 KA6 KG6 KF6 S16 T16 S36 S46 T56 P6 hb6
      go_wp2_with fail
      refine wp_region_quiet_below (by kernel_rfl) (by kernel_rfl) ?_
      repeat (quiet_step (first | exact cF1 _ _ | exact cF2 _ _ | exact cF3 _ _ | exact cF4 _ _ | exact cF5 _ _ | exact cF6 _ _))
      refine wpQuiet_nil ?_
      intro _ hw'
      obtain ⟨⟨dq, osq⟩, hw''⟩ := hw'
      subst hw''
      have bR : Hid (Below w.heap.size w (grow (redrawn w6 dq) osq)) := B6.out.trans ((below_regrown w6 dq osq).mono B6.out.size)
      clear cF1 cF2 cF3 cF4 cF5 cF6 m0 m1 m2 m3 m4 m5 m6 m7 m8 m9 m10
      go_wp2
      go_ret
      exact ⟨rfl, bR.out⟩

end Go.Proofs.Ytdcdfpjjdobmhab
