/-
  The walk of switchbacklaw.GroupParts.
-/
import Derived.Test.YtdcdfpjjdobmhacGroupBegun
import Derived.Test.YtdcdfpjjdobmhacGroupMath
import Derived.Test.YtdcdfpjjdobmhacNestApp
import Derived.Test.YtdcdfpjjdobmhacRefGroup
namespace Go.Proofs.Ytdcdfpjjdobmhac
open Go.RowKit

set_option maxHeartbeats 4000000 in
set_option maxRecDepth 100000 in
theorem groupParts_any (u v : Value) (l m : List Fr) (w : World) (hu : FrsIn (fun _ => True) w u l) (hv : FrsIn (fun _ => True) w v m) :
    Calls Try.prog 6 #[u, v] w fun e w' => e = .returned (.bool true) ∧ Below w.heap.size w w' := by
  obtain ⟨ua, uc, eu, _, hnb⟩ := hu.len
  obtain ⟨va, vc, ev, _, hqb⟩ := hv.len
  obtain ⟨n, hn⟩ : ∃ n, n = l.length := ⟨_, rfl⟩
  obtain ⟨q, hq⟩ : ∃ q, q = m.length := ⟨_, rfl⟩
  rw [← hn] at eu hnb
  rw [← hq] at ev hqb
  obtain ⟨E, hE⟩ : ∃ E, E = groupsE l := ⟨_, rfl⟩
  obtain ⟨F, hF⟩ : ∃ F, F = groupsE m := ⟨_, rfl⟩
  obtain ⟨RA, RO, hR⟩ : ∃ RA RO, (RA, RO) = groupsR l := ⟨_, _, rfl⟩
  obtain ⟨QA, QO, hQ⟩ : ∃ QA QO, (QA, QO) = groupsR m := ⟨_, _, rfl⟩
  obtain ⟨nA, hnA⟩ : ∃ n, n = RA.length := ⟨_, rfl⟩
  obtain ⟨nO, hnO⟩ : ∃ n, n = RO.length := ⟨_, rfl⟩
  obtain ⟨mA, hmA⟩ : ∃ n, n = QA.length := ⟨_, rfl⟩
  obtain ⟨mO, hmO⟩ : ∃ n, n = QO.length := ⟨_, rfl⟩
  have HA : Hid (∀ w' : World, FrsIn (fun _ => True) w' u l → Calls Try.prog 13 #[u] w' fun e w'' => ∃ ca cc fa fc, e = .returned (.tuple #[.slice ca nA cc, .agg #[.slice fa nO fc], .int .i64 E]) ∧ Hid (GrsIn (fun _ => True) w'' (.slice ca nA cc) RA) ∧ Hid (FrsIn (fun _ => True) w'' (.slice fa nO fc) RO) ∧ Below w'.heap.size w' w'') := fun w' hs => by
    refine (groupAll_any u l w' _ hs).mono ?_
    rw [← hE, ← hR]
    simp only [← hnA, ← hnO]
    rintro e w'' ⟨ca, cc, fa, fc, rfl, h1, h2, hb⟩
    exact ⟨ca, cc, fa, fc, rfl, h1.mono (fun _ _ _ => trivial), h2.mono (fun _ _ _ => trivial), hb⟩
  have HB : Hid (∀ w' : World, FrsIn (fun _ => True) w' v m → Calls Try.prog 13 #[v] w' fun e w'' => ∃ ca cc fa fc, e = .returned (.tuple #[.slice ca mA cc, .agg #[.slice fa mO fc], .int .i64 F]) ∧ Hid (GrsIn (fun _ => True) w'' (.slice ca mA cc) QA) ∧ Hid (FrsIn (fun _ => True) w'' (.slice fa mO fc) QO) ∧ Below w'.heap.size w' w'') := fun w' hs => by
    refine (groupAll_any v m w' _ hs).mono ?_
    rw [← hF, ← hQ]
    simp only [← hmA, ← hmO]
    rintro e w'' ⟨ca, cc, fa, fc, rfl, h1, h2, hb⟩
    exact ⟨ca, cc, fa, fc, rfl, h1.mono (fun _ _ _ => trivial), h2.mono (fun _ _ _ => trivial), hb⟩
  obtain ⟨WA, hWA⟩ : ∃ WA, WA = RA ++ (if 0 < nO then [RO] else []) ++ QA := ⟨_, rfl⟩
  obtain ⟨nW, hnW⟩ : ∃ n, n = WA.length := ⟨_, rfl⟩
  have HALL : Hid (E = 0 → F = 0 → n + q ≤ 100 → (∃ f r, m = f :: r ∧ f.key = true) → ∀ (w' : World) (o : Value), FrsIn (fun _ => True) w' o (l ++ m) → Calls Try.prog 13 #[o] w' fun e w'' => ∃ ca cc fa fc, e = .returned (.tuple #[.slice ca nW cc, .agg #[.slice fa mO fc], .int .i64 0]) ∧ Hid (GrsIn (fun _ => True) w'' (.slice ca nW cc) WA) ∧ Hid (FrsIn (fun _ => True) w'' (.slice fa mO fc) QO) ∧ Below w'.heap.size w' w'') := fun h1 h2 h3 h4 w' o hs => by
    obtain ⟨f, r, e1, e2⟩ := h4
    have hE1 : groupsE l = 0 := by rw [← hE]; exact h1
    have hE2 : groupsE m = 0 := by rw [← hF]; exact h2
    have hE3 := groupsE_append hE1 hE2 (by rw [← hn, ← hq]; exact h3)
    have hr : groupsR (l ++ m) = (WA, QO) := by
      have r1 : groupsR l = upG l l.length := by unfold groupsR; rw [if_pos hE1]
      have r2 : groupsR m = upG m m.length := by unfold groupsR; rw [if_pos hE2]
      have r3 : groupsR (l ++ m) = upG (l ++ m) (l ++ m).length := by unfold groupsR; rw [if_pos hE3]
      rw [r3, e1, upG_append l f r e2, ← e1, ← r1, ← r2, ← hR, ← hQ, hWA, hnO]
    refine (groupAll_any o (l ++ m) w' _ hs).mono ?_
    rw [hE3, hr]
    simp only [← hnW, ← hmO]
    rintro e w'' ⟨ca, cc, fa, fc, rfl, h1, h2, hb⟩
    exact ⟨ca, cc, fa, fc, rfl, h1.mono (fun _ _ _ => trivial), h2.mono (fun _ _ _ => trivial), hb⟩
  have HL : Hid (E = 0 → n ≤ 100 ∧ nA ≤ 100 ∧ nO ≤ 6) := fun h => by
    have hz : groupsE l = 0 := by rw [← hE]; exact h
    have h1 := (groupsE_zero.1 hz).1
    have h2 := upG_len l l.length (Nat.le_refl _)
    have r1 : groupsR l = upG l l.length := by unfold groupsR; rw [if_pos hz]
    rw [← r1, ← hR] at h2
    simp only at h2
    omega
  have HM : Hid (F = 0 → q ≤ 100 ∧ mA ≤ 100 ∧ mO ≤ 6) := fun h => by
    have hz : groupsE m = 0 := by rw [← hF]; exact h
    have h1 := (groupsE_zero.1 hz).1
    have h2 := upG_len m m.length (Nat.le_refl _)
    have r1 : groupsR m = upG m m.length := by unfold groupsR; rw [if_pos hz]
    rw [← r1, ← hQ] at h2
    simp only at h2
    omega
  have HU : Hid (FrsIn (fun _ => True) w u l) := hu
  have HV : Hid (FrsIn (fun _ => True) w v m) := hv
  have HN : Hid (n = l.length) := hn
  have HQ2 : Hid (q = m.length) := hq
  have HNA : Hid (nA = RA.length) := hnA
  have HMA : Hid (mA = QA.length) := hmA
  have HNO : Hid (nO = RO.length) := hnO
  have HWA : Hid (WA = RA ++ (if 0 < nO then [RO] else []) ++ QA) := hWA
  have HF0 : Hid (0 < q → ∃ b off f r, va = some ⟨b, off, none⟩ ∧ b < w.heap.size ∧ w.cell? ⟨b, off + 1, none⟩ = some (.bool f.key) ∧ m = f :: r) := fun h0 => by
    obtain ⟨ao, c, e1, _, _, hc⟩ := hv
    rw [ev] at e1
    injection e1 with e1 _ _
    subst e1
    obtain ⟨b, off, rfl, hb, _, pv, _, c1, _⟩ := hc 0 (by omega)
    cases m with
    | nil => simp at hq; omega
    | cons x r => exact ⟨b, off, x, r, rfl, hb, by simpa using c1, rfl⟩
  clear hu hv hE hF hR hQ hnA hnO hmA hmO hn hq hWA hnW
  subst eu ev
  go_enter Try.func6, Try.ntmps6
  go_wp2_with fail
  refine (HA.out _ HU.out).mono ?_
  rintro e w1 ⟨a1, c1, a2, c2, rfl, g1, f1, hb1⟩
  have B1 : Hid (Below w.heap.size w (w1.alloc (.cells #[.slice a2 nO c2] 35))) := hb1.alloc hb1.size _
  have K1 : Hid (Blk (w1.alloc (.cells #[.slice a2 nO c2] 35)) w1.heap.size #[.slice a2 nO c2] 35) := Blk.new _ _ _
  have G1 : Hid (GrsIn (fun _ => True) (w1.alloc (.cells #[.slice a2 nO c2] 35)) (.slice a1 nA c1) RA) := g1.out.alloc _
  have F1 : Hid (FrsIn (fun _ => True) (w1.alloc (.cells #[.slice a2 nO c2] 35)) (.slice a2 nO c2) RO) := f1.out.alloc _
  clear hb1 g1 f1
  go_wp2_with fail
  refine (HB.out _ (HV.out.below B1.out)).mono ?_
  rintro e w2 ⟨a3, c3, a4, c4, rfl, g2, f2, hb2⟩
  have bb2 : Below (w1.alloc (.cells #[.slice a2 nO c2] 35)).heap.size (w1.alloc (.cells #[.slice a2 nO c2] 35)) (w2.alloc (.cells #[.slice a4 mO c4] 35)) := hb2.alloc hb2.size _
  have B2 : Hid (Below w.heap.size w (w2.alloc (.cells #[.slice a4 mO c4] 35))) := B1.out.trans (bb2.mono B1.out.size)
  have K12 : Hid (Blk (w2.alloc (.cells #[.slice a4 mO c4] 35)) w1.heap.size #[.slice a2 nO c2] 35) := K1.out.below bb2 K1.out.lt
  have K2 : Hid (Blk (w2.alloc (.cells #[.slice a4 mO c4] 35)) w2.heap.size #[.slice a4 mO c4] 35) := Blk.new _ _ _
  have G12 : Hid (GrsIn (fun _ => True) (w2.alloc (.cells #[.slice a4 mO c4] 35)) (.slice a1 nA c1) RA) := G1.out.below bb2
  have F12 : Hid (FrsIn (fun _ => True) (w2.alloc (.cells #[.slice a4 mO c4] 35)) (.slice a2 nO c2) RO) := F1.out.below bb2
  have G2 : Hid (GrsIn (fun _ => True) (w2.alloc (.cells #[.slice a4 mO c4] 35)) (.slice a3 mA c3) QA) := g2.out.alloc _
  have F2 : Hid (FrsIn (fun _ => True) (w2.alloc (.cells #[.slice a4 mO c4] 35)) (.slice a4 mO c4) QO) := f2.out.alloc _
  clear hb2 bb2 g2 f2 G1 F1 K1 B1
  go_wp2_with fail
  refine (groupBegun_any _).mono ?_
  rintro e w3 ⟨rfl, hb3⟩
  have B3 : Hid (Below w.heap.size w w3) := B2.out.trans (hb3.mono B2.out.size)
  have K13 : Hid (Blk w3 w1.heap.size #[.slice a2 nO c2] 35) := K12.out.below hb3 K12.out.lt
  have K23 : Hid (Blk w3 w2.heap.size #[.slice a4 mO c4] 35) := K2.out.below hb3 K2.out.lt
  have G13 : Hid (GrsIn (fun _ => True) w3 (.slice a1 nA c1) RA) := G12.out.below hb3
  have F13 : Hid (FrsIn (fun _ => True) w3 (.slice a2 nO c2) RO) := F12.out.below hb3
  have G23 : Hid (GrsIn (fun _ => True) w3 (.slice a3 mA c3) QA) := G2.out.below hb3
  have F23 : Hid (FrsIn (fun _ => True) w3 (.slice a4 mO c4) QO) := F2.out.below hb3
  clear hb3 G12 F12 G2 F2 K12 K2 B2
  by_cases hE0 : E = 0
  case neg =>
    go_wp2
    go_ret
    exact ⟨rfl, B3.out⟩
  by_cases hF0 : F = 0
  case neg =>
    subst hE0
    go_wp2
    go_ret
    exact ⟨rfl, B3.out⟩
  have hn1 := HL.out hE0
  have hq1 := HM.out hF0
  have HALL2 : Hid (n + q ≤ 100 → (∃ f r, m = f :: r ∧ f.key = true) → ∀ (w' : World) (o : Value), FrsIn (fun _ => True) w' o (l ++ m) → Calls Try.prog 13 #[o] w' fun e w'' => ∃ ca cc fa fc, e = .returned (.tuple #[.slice ca nW cc, .agg #[.slice fa mO fc], .int .i64 0]) ∧ Hid (GrsIn (fun _ => True) w'' (.slice ca nW cc) WA) ∧ Hid (FrsIn (fun _ => True) w'' (.slice fa mO fc) QO) ∧ Below w'.heap.size w' w'') := HALL.out hE0 hF0
  subst hE0
  subst hF0
  by_cases hs : 100 < n + q
  · have hsi : (100 : Int) < (n : Int) + (q : Int) := by omega
    go_wp2
    go_ret
    exact ⟨rfl, B3.out⟩
  have hsi : ¬ (100 : Int) < (n : Int) + (q : Int) := by omega
  by_cases hq0 : q = 0
  · subst hq0
    go_wp2
    go_ret
    exact ⟨rfl, B3.out⟩
  have hq0i : ((q : Int) == 0) = false := by simpa using hq0
  obtain ⟨b, off, f, r, e1, hb, hc, hm⟩ := HF0.out (by omega)
  have hc3 := (B3.out.cell (p := ⟨b, off + 1, none⟩) hb).trans hc
  have hqi : (0 : Int) < (q : Int) := by omega
  subst e1
  cases hxf : f.key
  · rw [hxf] at hc3
    go_wp2
    go_ret
    exact ⟨rfl, B3.out⟩
  rw [hxf] at hc3
  have HFST : Hid (∃ f r, m = f :: r ∧ f.key = true) := ⟨f, r, hm, hxf⟩
  obtain ⟨v4, w4, v5, w5, r4, r5, o5, b5⟩ := frames_two (HU.out.below B3.out) (HV.out.below B3.out) (by rw [← HN.out, ← HQ2.out]; omega)
  have S5 : Hid (FrsIn (fun _ => True) w5 v5 (l ++ m)) := o5.frsIn (fun _ _ _ => trivial) (fun _ _ => trivial)
  have B5 : Hid (Below w3.heap.size w3 w5) := b5
  clear hm hxf hc o5 b5
  go_wp2_with (at_builtin; first | (refine wpList_append_run rfl (.tmp 55) (.tmp 56) 23 23 rfl _ _ rfl rfl r4 ?_) | (refine wpList_append_run rfl (.tmp 57) (.tmp 58) 23 23 rfl _ _ rfl rfl r5 ?_))
  refine (HALL2.out (by omega) HFST.out w5 v5 S5.out).mono ?_
  rintro e w6 ⟨a6, c6, a7, c7, rfl, g6, f6, hb6⟩
  obtain ⟨V, hV⟩ : ∃ V, V = w6.alloc (.cells #[.slice a7 mO c7] 35) := ⟨_, rfl⟩
  have b6 : Below w3.heap.size w3 V := by rw [hV]; exact ((B5.out.trans (hb6.mono B5.out.size)).alloc (by have := B5.out.size; have := hb6.size; omega) _)
  have KV : Hid (Blk V w6.heap.size #[.slice a7 mO c7] 35) := by rw [hV]; exact Blk.new _ _ _
  have GV : Hid (GrsIn (fun _ => True) V (.slice a6 nW c6) WA) := by rw [hV]; exact g6.out.alloc _
  have FV : Hid (FrsIn (fun _ => True) V (.slice a7 mO c7) QO) := by rw [hV]; exact f6.out.alloc _
  have K1V : Hid (Blk V w1.heap.size #[.slice a2 nO c2] 35) := K13.out.below b6 K13.out.lt
  have K2V : Hid (Blk V w2.heap.size #[.slice a4 mO c4] 35) := K23.out.below b6 K23.out.lt
  have G1V : GrsIn (fun g => g < V.heap.size) V (.slice a1 nA c1) RA := (G13.out.below b6).mono (fun g hg _ => hg)
  have F1V : FrsIn (fun g => g < V.heap.size) V (.slice a2 nO c2) RO := (F13.out.below b6).mono (fun g hg _ => hg)
  have G2V : GrsIn (fun g => g < V.heap.size) V (.slice a3 mA c3) QA := (G23.out.below b6).mono (fun g hg _ => hg)
  have F2V : Hid (FrsIn (fun _ => True) V (.slice a4 mO c4) QO) := F23.out.below b6
  have BV : Hid (Below w.heap.size w V) := B3.out.trans (b6.mono B3.out.size)
  obtain ⟨v8, w8, r8, o8, b8⟩ := groups_copy G1V (by rw [← HNA.out]; omega)
  have FIN : Hid (∀ (v9 : Value) (w9 : World) (L : List (List Fr)), Below V.heap.size V w9 → OwnGrs V.heap.size (fun g => g < V.heap.size) w9 v9 L → L.length ≤ 200 → WA = L ++ QA → ∃ v10 w10, (Builtin.append_ #[38, 38] 38 #[v9, .slice a3 mA c3]).run Try.prog w9 = .ok v10 w10 ∧ Hid (Below V.heap.size V w10) ∧ Hid (Calls Try.prog 19 #[.slice a6 nW c6, v10] w10 fun e w'' => e = .returned (.bool true) ∧ Below w10.heap.size w10 w'')) := fun v9 w9 L hb9 ho9 hl9 hw9 => by
    obtain ⟨qs, q1, q2, q3⟩ := (G2V.below hb9).sl
    obtain ⟨v10, w10, r10, o10, g10, _⟩ := groups_app ho9 q1 q2 q3 (fun g hg e => by have := (ho9.lt g e.symm).1; omega) (by rw [← HMA.out]; omega) hb9.size
    have hb10 : Below V.heap.size V w10 := hb9.grown g10 hb9.size (fun j hj => (ho9.lt j hj).1)
    refine ⟨v10, w10, r10, hb10, ?_⟩
    have := sameGroups_any _ _ _ _ _ _ w10 (GV.out.below hb10) (o10.grsIn (S' := fun _ => True) (fun _ _ _ => trivial) (fun _ _ => trivial))
    rw [← hw9, show sameGs WA WA = true from decide_eq_true rfl] at this
    exact this
  have HSF : Hid (∀ U : World, Below V.heap.size V U → Calls Try.prog 11 #[.slice a4 mO c4, .slice a7 mO c7] U fun e w'' => e = .returned (.bool true) ∧ Below U.heap.size U w'') := fun U hU => by
    have := sameFrames_any _ _ _ _ U (F2V.out.below hU).frs (FV.out.below hU).frs (by obtain ⟨_, _, _, _, h⟩ := F2V.out.len; exact h)
    rw [show sameFs QO QO = true from decide_eq_true rfl] at this
    exact this
  have O8 : Hid (OwnGrs V.heap.size (fun g => g < V.heap.size) w8 v8 RA) := o8
  have B8 : Hid (Below V.heap.size V w8) := b8
  have F8 : Hid (FrsIn (fun g => g < V.heap.size) w8 (.slice a2 nO c2) RO) := F1V.below b8
  have hk1 := (K1V.out.below b8 K1V.out.lt).one
  have hLV := K1V.out.lt
  subst hV
  simp only [World.size_alloc] at r8
  clear hb6 g6 f6 b6 G1V F1V G2V o8 b8 r4 r5 hc3
  by_cases h0 : 0 < nO
  · have h0i : (0 : Int) < (nO : Int) := by omega
    obtain ⟨v9, w9, r9, o9, b9⟩ := groups_snoc O8.out (Nat.le_refl _) F8.out (by rw [← HNA.out]; omega) B8.out.size
    have hb9 : Below (w6.alloc (.cells #[.slice a7 mO c7] 35)).heap.size (w6.alloc (.cells #[.slice a7 mO c7] 35)) w9 := B8.out.trans b9
    obtain ⟨v10, w10, r10, b10, C10⟩ := FIN.out v9 w9 (RA ++ [RO]) hb9 o9 (by rw [List.length_append, ← HNA.out]; simp; omega) (by rw [HWA.out, if_pos h0])
    have k9 := (K2V.out.below b10.out K2V.out.lt).one
    have k10 := (KV.out.below b10.out KV.out.lt).one
    clear o9 b9 hb9 FIN O8
    go_wp2_with (at_builtin; first | (refine wpList_append_run rfl (.tmp 64) (.tmp 65) 38 38 rfl _ _ rfl rfl r8 ?_) | (refine wpList_append_run rfl (.tmp 71) (.tmp 73) 38 38 rfl _ _ rfl rfl r9 ?_) | (refine wpList_append_runG rfl (.tmp 79) (.tmp 80) 38 38 rfl _ _ rfl rfl r10 ?_))
    refine C10.out.mono ?_
    rintro e w11 ⟨rfl, hb11⟩
    have B11 : Hid (Below (w6.alloc (.cells #[.slice a7 mO c7] 35)).heap.size (w6.alloc (.cells #[.slice a7 mO c7] 35)) w11) := Below.on b10.out hb11
    have k11 := (K2V.out.below B11.out K2V.out.lt).one
    have k12 := (KV.out.below B11.out KV.out.lt).one
    clear hb11 k9 k10 r8 r9 r10 hk1
    go_wp2_with fail
    refine (HSF.out _ B11.out).mono ?_
    rintro e w12 ⟨rfl, hb12⟩
    have B12 : Hid (Below w.heap.size w w12) := BV.out.trans ((Below.on B11.out hb12).mono BV.out.size)
    clear hb12 k11 k12
    go_wp2
    go_ret
    exact ⟨rfl, B12.out⟩
  · have h00 : nO = 0 := by omega
    obtain ⟨v10, w10, r10, b10, C10⟩ := FIN.out v8 w8 RA B8.out O8.out (by rw [← HNA.out]; omega) (by rw [HWA.out, if_neg h0, List.append_nil])
    have k9 := (K2V.out.below b10.out K2V.out.lt).one
    have k10 := (KV.out.below b10.out KV.out.lt).one
    subst h00
    clear FIN O8
    go_wp2_with (at_builtin; first | (refine wpList_append_run rfl (.tmp 64) (.tmp 65) 38 38 rfl _ _ rfl rfl r8 ?_) | (refine wpList_append_runG rfl (.tmp 79) (.tmp 80) 38 38 rfl _ _ rfl rfl r10 ?_))
    refine C10.out.mono ?_
    rintro e w11 ⟨rfl, hb11⟩
    have B11 : Hid (Below (w6.alloc (.cells #[.slice a7 mO c7] 35)).heap.size (w6.alloc (.cells #[.slice a7 mO c7] 35)) w11) := Below.on b10.out hb11
    have k11 := (K2V.out.below B11.out K2V.out.lt).one
    have k12 := (KV.out.below B11.out KV.out.lt).one
    clear hb11 k9 k10 r8 r10 hk1
    go_wp2_with fail
    refine (HSF.out _ B11.out).mono ?_
    rintro e w12 ⟨rfl, hb12⟩
    have B12 : Hid (Below w.heap.size w w12) := BV.out.trans ((Below.on B11.out hb12).mono BV.out.size)
    clear hb12 k11 k12
    go_wp2
    go_ret
    exact ⟨rfl, B12.out⟩

end Go.Proofs.Ytdcdfpjjdobmhac
