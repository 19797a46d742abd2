/-
  The walk of switchbacklaw.GroupBegins.
-/
import Derived.Test.YtfihnceeonffoacGroupBegun
import Derived.Test.YtfihnceeonffoacGroupMath2
import Derived.Test.YtfihnceeonffoacNestApp
import Derived.Test.YtfihnceeonffoacRefGroup
import Derived.Test.YtfihnceeonffoacQuietSkip
namespace Go.Proofs.Ytfihnceeonffoac
open Go.RowKit Go.Sort

theorem drop_cons {l : List Fr} {k : Nat} (h : k < l.length) : l.drop k = frAt l k :: l.drop (k + 1) := by
  unfold frAt
  rw [List.getElem?_eq_getElem h, Option.getD_some, ← List.drop_eq_getElem_cons h]
theorem flat_cons {L : List (List Fr)} {i : Nat} (h : i < L.length) : (L.drop i).flatten = (L[i]?.getD []) ++ (L.drop (i + 1)).flatten := by
  rw [List.getElem?_eq_getElem h, Option.getD_some, List.drop_eq_getElem_cons h, List.flatten_cons]

set_option maxHeartbeats 8000000 in
set_option maxRecDepth 100000 in
theorem groupBegins_any (u : Value) (l : List Fr) (w : World) (hu : FrsIn (fun _ => True) w u l) :
    Calls Try.prog 5 #[u] w fun e w' => e = .returned (.bool true) ∧ Below w.heap.size w w' := by
  obtain ⟨ua, uc, eu, _, hnb⟩ := hu.len
  obtain ⟨n, hn⟩ : ∃ n, n = l.length := ⟨_, rfl⟩
  rw [← hn] at eu hnb
  obtain ⟨E, hE⟩ : ∃ E, E = groupsE l := ⟨_, rfl⟩
  obtain ⟨RA, RO, hR⟩ : ∃ RA RO, (RA, RO) = groupsR l := ⟨_, _, rfl⟩
  obtain ⟨nA, hnA⟩ : ∃ n, n = RA.length := ⟨_, rfl⟩
  obtain ⟨nO, hnO⟩ : ∃ n, n = RO.length := ⟨_, rfl⟩
  have HA : Hid (∀ w' : World, FrsIn (fun _ => True) w' u l → Calls Try.prog 13 #[u] w' fun e w'' => ∃ ca cc fa fc, e = .returned (.tuple #[.slice ca nA cc, .agg #[.slice fa nO fc], .int .i64 E]) ∧ Hid (GrsIn (fun _ => True) w'' (.slice ca nA cc) RA) ∧ Hid (FrsIn (fun _ => True) w'' (.slice fa nO fc) RO) ∧ Below w'.heap.size w' w'') := fun w' hs => by
    refine (groupAll_any u l w' _ hs).mono ?_
    rw [← hE, ← hR]
    simp only [← hnA, ← hnO]
    rintro e w'' ⟨ca, cc, fa, fc, rfl, h1, h2, hb⟩
    exact ⟨ca, cc, fa, fc, rfl, h1.mono (fun _ _ _ => trivial), h2.mono (fun _ _ _ => trivial), hb⟩
  obtain ⟨GL, hGL⟩ : ∃ GL, GL = RA ++ (if 0 < nO then [RO] else []) := ⟨_, rfl⟩
  obtain ⟨nW, hnW⟩ : ∃ n, n = GL.length := ⟨_, rfl⟩
  have HEN : Hid (¬ E = 0 → nA = 0 ∧ nO = 0) := fun h => by
    have hr : groupsR l = ([], []) := by unfold groupsR; rw [if_neg (by rw [← hE]; exact h)]
    rw [← hR] at hr
    injection hr with r1 r2
    rw [hnA, hnO, r1, r2]; exact ⟨rfl, rfl⟩
  have HEZ : Hid (E = 0 → nA ≤ 100 ∧ nO ≤ 6 ∧ SubF GL.flatten l ∧ ∀ g ∈ GL, gchk g = 0) := fun h => by
    have hz : groupsE l = 0 := by rw [← hE]; exact h
    have r1 : groupsR l = upG l l.length := by unfold groupsR; rw [if_pos hz]
    have h1 := (groupsE_zero.1 hz).1
    have h2 := upG_len l l.length (Nat.le_refl _)
    have h3 := upG_right hz
    have h4 := upG_sub l
    rw [← r1, ← hR] at h2 h3 h4
    simp only [flatG] at h2 h4
    obtain ⟨g1, g2⟩ := h3
    simp only at g1 g2
    refine ⟨by omega, by omega, ?_, ?_⟩
    · rw [hGL]
      by_cases h0 : 0 < nO
      · rw [if_pos h0]; simpa using h4
      · have : RO = [] := List.eq_nil_of_length_eq_zero (by omega)
        rw [if_neg h0, List.append_nil]
        rw [this, List.append_nil] at h4; exact h4
    · intro g hg
      rw [hGL] at hg
      rcases List.mem_append.1 hg with hg | hg
      · exact g1 g hg
      · by_cases h0 : 0 < nO
        · rw [if_pos h0] at hg
          simp at hg; subst hg
          rcases g2 with g2 | g2
          · rw [g2] at hnO; simp at hnO; omega
          · exact g2
        · rw [if_neg h0] at hg; simp at hg
  have HU : Hid (FrsIn (fun _ => True) w u l) := hu
  have HN : Hid (n = l.length) := hn
  have HNA : Hid (nA = RA.length) := hnA
  have HGL : Hid (GL = RA ++ (if 0 < nO then [RO] else [])) := hGL
  have HNW : Hid (nW = GL.length) := hnW
  clear hu hE hR hnA hnO hn hGL hnW
  subst eu
  go_enter Try.func5, Try.ntmps5
  go_wp2_with fail
  refine (HA.out _ HU.out).mono ?_
  rintro e w1 ⟨a1, c1, a2, c2, rfl, g1, f1, hb1⟩
  have B1 : Hid (Below w.heap.size w (w1.alloc (.cells #[.slice a2 nO c2] 35))) := hb1.alloc hb1.size _
  have K1 : Hid (Blk (w1.alloc (.cells #[.slice a2 nO c2] 35)) w1.heap.size #[.slice a2 nO c2] 35) := Blk.new _ _ _
  have G1 : Hid (GrsIn (fun _ => True) (w1.alloc (.cells #[.slice a2 nO c2] 35)) (.slice a1 nA c1) RA) := g1.out.alloc _
  have F1 : Hid (FrsIn (fun _ => True) (w1.alloc (.cells #[.slice a2 nO c2] 35)) (.slice a2 nO c2) RO) := f1.out.alloc _
  clear hb1 g1 f1
  go_wp2_with fail
  refine (groupBegun_any _).mono ?_
  rintro e w3 ⟨rfl, hb3⟩
  have B3 : Hid (Below w.heap.size w w3) := B1.out.trans (hb3.mono B1.out.size)
  have K13 : Hid (Blk w3 w1.heap.size #[.slice a2 nO c2] 35) := K1.out.below hb3 K1.out.lt
  have G13 : Hid (GrsIn (fun _ => True) w3 (.slice a1 nA c1) RA) := G1.out.below hb3
  have F13 : Hid (FrsIn (fun _ => True) w3 (.slice a2 nO c2) RO) := F1.out.below hb3
  clear hb3 G1 F1 K1 B1
  have k0 := K13.out.one
  by_cases hE0 : E = 0
  case neg =>
    obtain ⟨h1, h2⟩ := HEN.out hE0
    subst h1 h2
    go_wp2
    go_ret
    exact ⟨rfl, B3.out⟩
  obtain ⟨hA100, hO6, hSub, hRight⟩ := HEZ.out hE0
  have HSUB : Hid (SubF GL.flatten l) := hSub
  have HRIGHT : Hid (∀ g ∈ GL, gchk g = 0) := hRight
  subst hE0
  have G1V : GrsIn (fun g => g < w3.heap.size) w3 (.slice a1 nA c1) RA := G13.out.mono (fun g hg _ => hg)
  obtain ⟨v8, w8, r8, o8, b8⟩ := groups_copy G1V (by rw [← HNA.out]; omega)
  have O8 : Hid (OwnGrs w3.heap.size (fun g => g < w3.heap.size) w8 v8 RA) := o8
  have B8 : Hid (Below w3.heap.size w3 w8) := b8
  have F8 : Hid (FrsIn (fun g => g < w3.heap.size) w8 (.slice a2 nO c2) RO) := (F13.out.mono (S' := fun g => g < w3.heap.size) (fun g hg _ => hg)).below b8
  have hk1 := (K13.out.below b8 K13.out.lt).one
  clear hSub hRight HEZ HEN o8 b8 G1V k0
  go_upto_if 35 with (at_builtin; refine wpList_append_run rfl (.tmp 29) (.tmp 30) 38 38 rfl _ _ rfl rfl r8 ?_)
  go_cut [6] (fun s6 wc => ∃ a c, s6 = .slice a nW c ∧ Hid (GrsIn (fun _ => True) wc (.slice a nW c) GL) ∧ Hid (Below w3.heap.size w3 wc))
  case first =>
    by_cases h0 : 0 < nO
    · have h0i : (0 : Int) < (nO : Int) := by omega
      obtain ⟨v9, w9, r9, o9, b9⟩ := groups_snoc O8.out (Nat.le_refl _) F8.out (by rw [← HNA.out]; omega) B8.out.size
      have eGL : GL = RA ++ [RO] := by rw [HGL.out, if_pos h0]
      have G9 : GrsIn (fun _ => True) w9 v9 GL := by rw [eGL]; exact o9.grsIn (fun _ _ _ => trivial) (fun _ _ => trivial)
      obtain ⟨a, c, e9, _⟩ := G9.len
      rw [← HNW.out] at e9
      have G9' : Hid (GrsIn (fun _ => True) w9 v9 GL) := G9
      have B9 : Hid (Below w3.heap.size w3 w9) := B8.out.trans b9
      subst e9
      clear o9 b9 G9 eGL
      go_wp2_with (at_builtin; refine wpList_append_run rfl (.tmp 36) (.tmp 38) 38 38 rfl _ _ rfl rfl r9 ?_)
      go_meet
      case rel => exact ⟨a, c, rfl, G9', B9⟩
    · have h0i : ¬ (0 : Int) < (nO : Int) := by omega
      have eGL : GL = RA := by rw [HGL.out, if_neg h0, List.append_nil]
      have G9 : GrsIn (fun _ => True) w8 v8 GL := by rw [eGL]; exact O8.out.grsIn (fun _ _ _ => trivial) (fun _ _ => trivial)
      obtain ⟨a, c, e9, _⟩ := G9.len
      rw [← HNW.out] at e9
      have G9' : Hid (GrsIn (fun _ => True) w8 v8 GL) := G9
      subst e9
      clear G9 eGL
      go_wp2_with fail
      go_meet
      case rel => exact ⟨a, c, rfl, G9', B8⟩
  case rest =>
    obtain ⟨ga, gc, rfl, HG, BC⟩ := hcut
    have hWl : nW ≤ 9223372036854775807 := by
      obtain ⟨_, _, _, _, h⟩ := HG.out.len
      rw [HNW.out]; exact h
    obtain ⟨go', gc', eg, _, _, hgc⟩ := HG.out
    rw [← HNW.out] at eg
    injection eg with eg _ eg2
    subst eg eg2
    have HGC : Hid (∀ k, k < GL.length → ∃ b off, ga = some ⟨b, off, none⟩ ∧ b < wc.heap.size ∧ True ∧ ∃ sv, wc.cell? ⟨b, off + k, none⟩ = some sv ∧ FrsIn (fun _ => True) wc sv (GL[k]?.getD [])) := hgc
    have BW : Hid (Below w.heap.size w wc) := B3.out.trans (BC.out.mono B3.out.size)
    obtain ⟨uo, uc', eu, _, _, huc⟩ := HU.out.below BW.out
    rw [← HN.out] at eu
    injection eu with eu _ eu2
    subst eu eu2
    have HUC : Hid (∀ k, k < l.length → ∃ b off, ua = some ⟨b, off, none⟩ ∧ b < wc.heap.size ∧ True ∧ At3In (fun _ => True) wc b (off + k * 3) (l[k]?.getD Fr.zero)) := huc
    clear hgc huc hk1 r8 O8 F8
    go_wp2_with fail
    go_loopw [7, 8] (fun s7 s8 wr => ∃ (at' i : Nat), at' ≤ n ∧ i ≤ nW ∧ s7 = .int .i64 at' ∧ s8 = .int .i64 i ∧ Hid (SubF (GL.drop i).flatten (l.drop at')) ∧ Hid (Below wc.heap.size wc wr))
      (fun _ i _ => nW - (intOf i).toNat)
    case atStart => exact ⟨0, 0, Nat.zero_le _, Nat.zero_le _, rfl, rfl, HSUB, Below.refl _ _⟩
    case round =>
      obtain ⟨at1, i, hat1, hi, rfl, rfl, HS1, HB1⟩ := hrel
      by_cases hil : i < nW
      · obtain ⟨b, off, hga, hb, _, sv, hsv, hfs⟩ := HGC.out i (by rw [← HNW.out]; exact hil)
        obtain ⟨g, hg⟩ : ∃ g, g = GL[i]?.getD [] := ⟨_, rfl⟩
        rw [← hg] at hfs
        have hgm : g ∈ GL := by rw [hg, List.getElem?_eq_getElem (by rw [← HNW.out]; exact hil)]; exact List.getElem_mem _
        have hgk := HRIGHT.out g hgm
        have HGK : Hid (gchk g = 0) := hgk
        have HF : Hid (FrsIn (fun _ => True) wc sv g) := hfs
        have HFL : Hid ((GL.drop i).flatten = g ++ (GL.drop (i + 1)).flatten) := by show _ = _; rw [hg]; exact flat_cons (by rw [← HNW.out]; exact hil)
        have cS : Hid (∀ U, Below wc.heap.size wc U → U.cell? ⟨b, off + i, none⟩ = some sv) := fun U hU => (hU.cell (p := ⟨b, off + i, none⟩) hb).trans hsv
        obtain ⟨sa, sc, esv, _, hgl⟩ := hfs.len
        obtain ⟨gn, hgn⟩ : ∃ gn, gn = g.length := ⟨_, rfl⟩
        have HGN : Hid (gn = g.length) := hgn
        rw [← hgn] at esv hgl
        have hCk : Hid (∀ U, Below wc.heap.size wc U → Calls Try.prog 18 #[.agg #[sv]] U fun e w'' => e = .returned (.int .i64 0) ∧ Below U.heap.size U w'') := fun U hU => by
          rw [← hgk]; exact groupCheck_any _ sv g U (HF.out.below hU)
        obtain ⟨so, sc', es2, _, _, hfc⟩ := hfs
        rw [← hgn, esv] at es2
        injection es2 with es2 _ es3
        subst es2 es3
        have HFC : Hid (∀ k, k < g.length → ∃ b off, sa = some ⟨b, off, none⟩ ∧ b < wc.heap.size ∧ True ∧ At3In (fun _ => True) wc b (off + k * 3) (g[k]?.getD Fr.zero)) := hfc
        subst hga
        subst esv
        have hili : (i : Int) < (nW : Int) := by omega
        have hs0 := cS.out wr HB1.out
        clear hg hgm hgk hsv hfc hgn
        go_wp2_with fail
        refine (hCk.out _ HB1.out).mono ?_
        rintro e w2 ⟨rfl, hb2⟩
        have HB2 : Hid (Below wc.heap.size wc w2) := Below.on HB1.out hb2
        have HS2 : Hid (SubF (g.drop 0 ++ (GL.drop (i + 1)).flatten) (l.drop at1)) := by show SubF _ _; rw [List.drop_zero, ← HFL.out]; exact HS1.out
        clear hb2 hs0
        go_wp2_with fail
        go_loopw [7, 9] (fun s7 s9 wi => ∃ (at' k : Nat), at' ≤ n ∧ k ≤ gn ∧ s7 = .int .i64 at' ∧ s9 = .int .i64 k ∧ Hid (SubF (g.drop k ++ (GL.drop (i + 1)).flatten) (l.drop at')) ∧ Hid (Below wc.heap.size wc wi))
          (fun _ k _ => gn - (intOf k).toNat)
        case atStart => exact ⟨at1, 0, hat1, Nat.zero_le _, rfl, rfl, HS2, HB2⟩
        case round =>
          obtain ⟨at2, k, hat2, hk, rfl, rfl, HS3, HB3⟩ := hrel
          have hs1 := cS.out wr HB3.out
          by_cases hkl : k < gn
          · obtain ⟨b3, off3, hsa, hb3, _, pv3, d0, d1, d2, hp3⟩ := HFC.out k (by rw [← HGN.out]; exact hkl)
            obtain ⟨f, hf⟩ : ∃ f, f = frAt g k := ⟨_, rfl⟩
            rw [show g[k]?.getD Fr.zero = f from hf.symm] at d0 d1 hp3
            have HKF : Hid (f.key = decide (k = 0)) := by
              show _ = _
              have h := ((gchk_zero.1 HGK.out).2.2 k (by rw [← HGN.out]; exact hkl)).2
              rw [hf]
              unfold inPl at h
              by_cases h0 : k = 0
              · rw [if_pos h0] at h; rw [h]; simp [h0]
              · rw [if_neg h0] at h
                simp only [Bool.and_eq_true, Bool.not_eq_true'] at h
                rw [h.1]; simp [h0]
            have HDR : Hid (g.drop k ++ (GL.drop (i + 1)).flatten = f :: (g.drop (k + 1) ++ (GL.drop (i + 1)).flatten)) := by show _ = _; rw [drop_cons (by rw [← HGN.out]; exact hkl), ← hf]; rfl
            obtain ⟨X, hX⟩ : ∃ X, X = g.drop (k + 1) ++ (GL.drop (i + 1)).flatten := ⟨_, rfl⟩
            have HX : Hid (X = g.drop (k + 1) ++ (GL.drop (i + 1)).flatten) := hX
            have HS4 : Hid (SubF (f :: X) (l.drop at2)) := by show SubF _ _; rw [hX, ← HDR.out]; exact HS3.out
            obtain ⟨p3a, p3c, ep3⟩ := hp3.1.len
            have HP3 : Hid (StrsIn (fun _ => True) wc pv3 f.parts) := hp3
            have D0 : Hid (∀ U, Below wc.heap.size wc U → U.cell? ⟨b3, off3 + k * 3, none⟩ = some (.int .i64 f.time) ∧ U.cell? ⟨b3, off3 + k * 3 + 1, none⟩ = some (.bool f.key) ∧ U.cell? ⟨b3, off3 + k * 3 + 2, none⟩ = some pv3) := fun U hU => ⟨(hU.cell (p := ⟨b3, off3 + k * 3, none⟩) hb3).trans d0, (hU.cell (p := ⟨b3, off3 + k * 3 + 1, none⟩) hb3).trans d1, (hU.cell (p := ⟨b3, off3 + k * 3 + 2, none⟩) hb3).trans d2⟩
            subst hsa
            subst ep3
            have hkli : (k : Int) < (gn : Int) := by omega
            have hk0 : ((k : Int) == 0) = decide (k = 0) := by by_cases h : k = 0 <;> simp [h]
            clear hf d0 d1 d2 hp3 hX HDR
            go_wp2_with fail
            go_loopw [7] (fun s7 wj => ∃ at' : Nat, at' ≤ n ∧ s7 = .int .i64 at' ∧ Hid (SubF (f :: X) (l.drop at')) ∧ Hid (Below wc.heap.size wc wj))
              (fun s _ => n - (intOf s).toNat)
            case atStart => exact ⟨at2, hat2, rfl, HS4, HB3⟩
            case round =>
              obtain ⟨at3, hat3, rfl, HS5, HB4⟩ := hrel
              have hltn : at3 < n := by
                by_cases h : at3 < n
                · exact h
                · exfalso
                  have := HS5.out
                  rw [List.drop_eq_nil_of_le (by rw [← HN.out]; omega)] at this
                  cases this
              obtain ⟨b4, off4, hua, hb4, _, pv4, q0, q1, q2, hp4⟩ := HUC.out at3 (by rw [← HN.out]; exact hltn)
              obtain ⟨h, hh⟩ : ∃ h, h = frAt l at3 := ⟨_, rfl⟩
              rw [show l[at3]?.getD Fr.zero = h from hh.symm] at q0 q1 hp4
              have HDL : Hid (l.drop at3 = h :: l.drop (at3 + 1)) := by show _ = _; rw [hh]; exact drop_cons (by rw [← HN.out]; exact hltn)
              have t0 := (HB4.out.cell (p := ⟨b4, off4 + at3 * 3, none⟩) hb4).trans q0
              have t1 := (HB4.out.cell (p := ⟨b4, off4 + at3 * 3 + 1, none⟩) hb4).trans q1
              have t2 := (HB4.out.cell (p := ⟨b4, off4 + at3 * 3 + 2, none⟩) hb4).trans q2
              obtain ⟨e0, e1, e2⟩ := D0.out wr HB4.out
              have s0 := cS.out wr HB4.out
              obtain ⟨p4a, p4c, ep4⟩ := hp4.1.len
              subst ep4
              subst hua
              have T1 : Hid (∀ U, Below wr.heap.size wr U → U.cell? ⟨b4, off4 + at3 * 3 + 1, none⟩ = some (.bool h.key)) := fun U hU => (hU.cell (p := ⟨b4, off4 + at3 * 3 + 1, none⟩) (Nat.lt_of_lt_of_le hb4 HB4.out.size)).trans t1
              have hat3i : (at3 : Int) < (n : Int) := by omega
              have hd : decide (at3 < n) = true := decide_eq_true hltn
              obtain ⟨t, ht⟩ : ∃ t, t = sameFB h.time f.time h.key f.key h.parts f.parts := ⟨_, rfl⟩
              have HT : Hid (t = true ↔ h = f) := by show _ ↔ _; rw [ht]; exact sameFB_iff h f
              have hpa := hp4.below HB4.out
              have hpb := HP3.out.below HB4.out
              have cF : ∀ d os, Calls Try.prog 20 #[.agg #[.int .i64 h.time, .bool h.key, .slice p4a h.parts.length p4c], .agg #[.int .i64 f.time, .bool f.key, .slice p3a f.parts.length p3c]] (grow (redrawn wr d) os) fun e w'' => e = .returned (.bool t) ∧ ∃ p : Regrown, w'' = grow (redrawn wr p.d) p.os := fun d os =>
                Calls.regrown_of (by
                  rw [ht]
                  exact sameFrame_any _ _ _ _ _ _ _ _ _ (hpa.1.below (below_regrown wr d os)) (hpb.1.below (below_regrown wr d os)) hpa.2.1)
              have y0 := cell_regrown t0
              have y1 := cell_regrown t1
              have y2 := cell_regrown t2
              have y3 := cell_regrown e0
              have y4 := cell_regrown e1
              have y5 := cell_regrown e2
              have y6 := cell_regrown s0
              clear hh q0 q1 q2 hp4 t0 t1 t2 e0 e1 e2 s0 ht hpa hpb
              cases t
              · have hne : ¬ h = f := fun e => by have := HT.out.2 e; cases this
                have hm := SubF.miss (by rw [← HDL.out]; exact HS5.out) hne
                have HHK : Hid (h.key = false) := hm.1
                have HS6 : Hid (SubF (f :: X) (l.drop (at3 + 1))) := hm.2
                clear hm hne
                go_wp2_with fail
                refine wp_region_quiet_below (by kernel_rfl) (by kernel_rfl) ?_
                iterate 19 (quiet_step (exact cF _ _))
                refine wpQuiet_step (fun K hK => ?_)
                go_simp
                generalize hA : Act.mk _ _ = A
                refine hK A ?_
                clear hK K
                refine wpQuiet_jump 8 (by rw [← hA]; kernel_rfl) (fun B hB => ?_)
                rw [← hA] at hB
                simp only [List.take, List.drop] at hB ⊢
                simp [putU, go_sem] at hB
                subst hB
                clear hA
                iterate 2 (quiet_step (exact cF _ _))
                refine wpQuiet_nil ?_
                intro _ hw'
                obtain ⟨⟨dq, osq⟩, hw''⟩ := hw'
                subst hw''
                have bR := below_regrown wr dq osq
                obtain ⟨V, hV⟩ : ∃ V, V = grow (redrawn wr dq) osq := ⟨_, rfl⟩
                rw [← hV] at bR
                have z1 := T1.out V bR
                rw [HHK.out] at z1
                have bV : Hid (Below wc.heap.size wc V) := Below.on HB4.out bR
                rw [← hV]
                clear hV bR cF y0 y1 y2 y3 y4 y5 y6
                go_wp2_with fail
                go_roundw
                case rel => exact ⟨at3 + 1, by omega, by go_num, HS6, bV⟩
                case measure => simp [intOf]; omega
              · have heq : h = f := HT.out.1 rfl
                have hk2 : h.key = decide (k = 0) := by rw [heq]; exact HKF.out
                have HS6 : Hid (SubF X (l.drop (at3 + 1))) := SubF.hit (f := f) (by rw [← heq, ← HDL.out, heq]; exact HS5.out)
                rw [hk2] at y1 cF
                clear heq hk2
                go_wp2_with fail
                refine wp_region_quiet_below (by kernel_rfl) (by kernel_rfl) ?_
                repeat (quiet_step (exact cF _ _))
                refine wpQuiet_nil ?_
                intro _ hw'
                obtain ⟨⟨dq, osq⟩, hw''⟩ := hw'
                subst hw''
                have bR := below_regrown wr dq osq
                obtain ⟨V, hV⟩ : ∃ V, V = grow (redrawn wr dq) osq := ⟨_, rfl⟩
                rw [← hV] at bR
                have bV : Hid (Below wc.heap.size wc V) := Below.on HB4.out bR
                have hnn : ((at3 : Int) == (n : Int)) = false := by simp; omega
                rw [← hV]
                clear hV bR cF y0 y1 y2 y3 y4 y5 y6
                go_wp2_with fail
                go_roundw
                case rel => exact ⟨at3 + 1, k + 1, by omega, by omega, by go_num, by go_num, (show SubF _ _ by rw [← HX.out]; exact HS6.out), bV⟩
                case measure => simp [intOf]; omega
          · have hkn : k = gn := by omega
            have HS4 : Hid (SubF (GL.drop (i + 1)).flatten (l.drop at2)) := by
              have := HS3.out
              rw [List.drop_eq_nil_of_le (by rw [← HGN.out]; omega), List.nil_append] at this
              exact this
            subst hkn
            go_wp2_with fail
            go_roundw
            case rel => exact ⟨at2, i + 1, hat2, by omega, rfl, by go_num, HS4, HB3⟩
            case measure => simp [intOf]; omega
      · have hin : i = nW := by omega
        have HNK : Hid (∀ f ∈ l.drop at1, f.key = false) := SubF.none (by
          have := HS1.out
          rw [List.drop_eq_nil_of_le (by rw [← HNW.out]; omega)] at this
          exact this)
        subst hin
        go_wp2_with fail
        go_loopw [7] (fun s7 wj => ∃ at' : Nat, at' ≤ n ∧ s7 = .int .i64 at' ∧ Hid (∀ f ∈ l.drop at', f.key = false) ∧ Hid (Below wc.heap.size wc wj))
          (fun s _ => n - (intOf s).toNat)
        case atStart => exact ⟨at1, hat1, rfl, HNK, HB1⟩
        case round =>
          obtain ⟨at3, hat3, rfl, HK3, HB4⟩ := hrel
          by_cases hltn : at3 < n
          · obtain ⟨b4, off4, hua, hb4, _, pv4, q0, q1, q2, hp4⟩ := HUC.out at3 (by rw [← HN.out]; exact hltn)
            have t1 := (HB4.out.cell (p := ⟨b4, off4 + at3 * 3 + 1, none⟩) hb4).trans q1
            have hdc := drop_cons (l := l) (k := at3) (by rw [← HN.out]; exact hltn)
            have hk3 : (l[at3]?.getD Fr.zero).key = false := HK3.out _ (by rw [hdc]; exact List.mem_cons_self)
            rw [hk3] at t1
            have HK4 : Hid (∀ f ∈ l.drop (at3 + 1), f.key = false) := fun f hf => HK3.out f (by rw [hdc]; exact List.mem_cons_of_mem _ hf)
            subst hua
            have hat3i : (at3 : Int) < (n : Int) := by omega
            clear q0 q1 q2 hp4 hdc hk3
            go_wp2_with fail
            go_roundw
            case rel => exact ⟨at3 + 1, by omega, by go_num, HK4, HB4⟩
            case measure => simp [intOf]; omega
          · have han : at3 = n := by omega
            subst han
            go_wp2
            go_ret
            exact ⟨rfl, BW.out.trans (HB4.out.mono BW.out.size)⟩

end Go.Proofs.Ytfihnceeonffoac
