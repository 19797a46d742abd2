/-
  The walk of switchbacklaw.FrameParts.
-/
import Derived.Test.YtdcdfpjjdobmhacFrameBegun
import Derived.Test.YtdcdfpjjdobmhacFrameMath
import Derived.Test.YtdcdfpjjdobmhacAppAny
namespace Go.Proofs.Ytdcdfpjjdobmhac
open Go.RowKit

theorem framesE_append {l m : List Sk} (h1 : framesE l = 0) (h2 : framesE m = 0) (h : l.length + m.length ≤ 100) : framesE (l ++ m) = 0 := by
  unfold framesE at h1 h2 ⊢
  rw [if_neg (by omega)] at h1 h2
  rw [List.length_append, if_neg (by omega), chkAll_append _ _ h1, h2]
theorem framesR_append {l m : List Sk} (h1 : framesE l = 0) (h2 : framesE m = 0) (h : l.length + m.length ≤ 100) (hf : ∀ x r, m = x :: r → x.p.f = true) : framesR (l ++ m) = framesR l ++ framesR m := by
  unfold framesR
  rw [framesE_append h1 h2 h, h1, h2, if_pos rfl, if_pos rfl, if_pos rfl, framesS_append l m hf]
theorem Good.one {w : World} {p : Fr × Value} (h : Good w p) : p.2.oneCell' = true := by
  obtain ⟨a, c, e⟩ := h.1.len
  rw [e]; rfl
theorem fr_one {w : World} {ps : List (Fr × Value)} (h : ∀ p ∈ ps, Good w p) : ∀ u ∈ frCells ps, u.oneCell' = true := fun u hu => by
  obtain ⟨p, hp, hu⟩ := List.mem_flatMap.1 hu
  simp at hu
  rcases hu with rfl | rfl | rfl
  · rfl
  · rfl
  · exact (h p hp).one
theorem Outs.bound2 {base : Nat} {w : World} {v : Value} {l : List Fr} (h : Outs base w v l) : l.length ≤ 9223372036854775807 := by
  obtain ⟨ps, hp, ⟨_, ⟨_, h0⟩ | ⟨g, cap, cur, _, _, _, h1, h2, _⟩⟩, _⟩ := h
  · rw [← hp, List.length_map, h0]; omega
  · rw [← hp, List.length_map]; unfold maxLen at h2; omega
/-- the frames of both rows, behind the appends -/
theorem Outs.two {base base' : Nat} {w : World} {u v : Value} {l m : List Fr} (hu : Outs base w u l) (hv : Outs base' w v m) (hl : l.length ≤ 100) (hm : m.length ≤ 100) :
    ∃ v3 w3 v4 w4, (Builtin.append_ #[23, 23] 23 #[.slice (some ⟨w.heap.size, 0, none⟩) 0 0, u]).run Try.prog (w.alloc (.cells #[] 48)) = .ok v3 w3 ∧ (Builtin.append_ #[23, 23] 23 #[v3, v]).run Try.prog w3 = .ok v4 w4 ∧ Outs w.heap.size w4 v4 (l ++ m) ∧ Below w.heap.size w w4 := by
  obtain ⟨i0, hi, hz0, hz1, hz2⟩ := info_parts Try.infoFrm
  obtain ⟨ps, p1, p2, p3⟩ := hu
  obtain ⟨qs, q1, q2, q3⟩ := hv
  have hps : ps.length ≤ 100 := by rw [← p1, List.length_map] at hl; exact hl
  have hqs : qs.length ≤ 100 := by rw [← q1, List.length_map] at hm; exact hm
  obtain ⟨v3, w3, v4, w4, r3, r4, o4, b4⟩ := app_two (P := Try.prog) w 23 48 i0 _ 3 40 Try.underlying23 hi hz0 hz1 hz2 rfl (by decide) u v ps.length qs.length (frCells ps) (frCells qs) (Sl.of_owns p2) (Sl.of_owns q2) (fr_one p3) (fr_one q3) (by unfold maxLen; omega) (by omega)
  refine ⟨v3, w3, v4, w4, r3, r4, ⟨ps ++ qs, by rw [List.map_append, p1, q1], by rw [List.length_append, frCells_append]; exact o4, fun p hp => ?_⟩, b4⟩
  have hs : ∀ p, Good w p → Good w4 p := fun p hp => hp.same b4.size (fun g _ hc => b4.block g hc.lt)
  rcases List.mem_append.1 hp with hp | hp
  · exact hs p (p3 p hp)
  · exact hs p (q3 p hp)
theorem framesR_len (l : List Sk) : (framesR l).length ≤ 100 := by
  unfold framesR framesE
  by_cases h : 100 < l.length
  · rw [if_pos h, if_neg (by decide)]; simp
  · have hup : ∀ k, k ≤ l.length → (upA l k).2.length ≤ k := by
      intro k
      induction k with
      | zero => intro _; exact Nat.le_refl _
      | succ k ih =>
        intro hk
        rw [upA_succ l k (by omega)]
        have := ih (by omega)
        simp only [stepA]
        split
        · simp; omega
        · omega
    rw [if_neg h]
    split
    · have := hup l.length (Nat.le_refl _)
      unfold framesS; omega
    · simp

set_option maxHeartbeats 4000000 in
set_option maxRecDepth 100000 in
theorem frameParts_any (u v : Value) (l m : List Sk) (w : World) (hu : Sls w u l) (hul : l.length ≤ 9223372036854775807) (hv : Sls w v m) (hvl : m.length ≤ 9223372036854775807) :
    Calls Try.prog 3 #[u, v] w fun e w' => e = .returned (.bool true) ∧ Below w.heap.size w w' := by
  obtain ⟨i0, hi, hz0, hz1, hz2⟩ := info_parts Try.infoSlot
  obtain ⟨ua, uc, eu⟩ := hu.len
  obtain ⟨va, vc, ev⟩ := hv.len
  obtain ⟨n, hn⟩ : ∃ n, n = l.length := ⟨_, rfl⟩
  obtain ⟨q, hq⟩ : ∃ q, q = m.length := ⟨_, rfl⟩
  rw [← hn] at eu
  rw [← hq] at ev
  obtain ⟨E, hE⟩ : ∃ E, E = framesE l := ⟨_, rfl⟩
  obtain ⟨F, hF⟩ : ∃ F, F = framesE m := ⟨_, rfl⟩
  obtain ⟨R, hR⟩ : ∃ R, R = framesR l := ⟨_, rfl⟩
  obtain ⟨Q, hQ⟩ : ∃ Q, Q = framesR m := ⟨_, rfl⟩
  obtain ⟨nR, hnR⟩ : ∃ n, n = R.length := ⟨_, rfl⟩
  obtain ⟨nQ, hnQ⟩ : ∃ n, n = Q.length := ⟨_, rfl⟩
  have HA : Hid (∀ w' : World, Sls w' u l → Calls Try.prog 9 #[u] w' fun e w'' => ∃ a c, e = .returned (.tuple #[.slice a nR c, .int .i64 E]) ∧ Hid (Outs w'.heap.size w'' (.slice a nR c) R) ∧ Below w'.heap.size w' w'') := fun w' hs => by
    refine (frameAll_any u l w' hs hul).mono ?_
    rw [← hE, ← hR]
    rintro e w'' ⟨o, rfl, ho, hb⟩
    obtain ⟨a, c, rfl⟩ := ho.len
    rw [← hnR] at ho ⊢
    exact ⟨a, c, rfl, ho, hb⟩
  have HB : Hid (∀ w' : World, Sls w' v m → Calls Try.prog 9 #[v] w' fun e w'' => ∃ a c, e = .returned (.tuple #[.slice a nQ c, .int .i64 F]) ∧ Hid (Outs w'.heap.size w'' (.slice a nQ c) Q) ∧ Below w'.heap.size w' w'') := fun w' hs => by
    refine (frameAll_any v m w' hs hvl).mono ?_
    rw [← hF, ← hQ]
    rintro e w'' ⟨o, rfl, ho, hb⟩
    obtain ⟨a, c, rfl⟩ := ho.len
    rw [← hnQ] at ho ⊢
    exact ⟨a, c, rfl, ho, hb⟩
  have HNR : Hid (nR = R.length) := hnR
  have HNQ : Hid (nQ = Q.length) := hnQ
  have HRE : Hid (¬ E = 0 → nR = 0) := fun h => by rw [hnR, hR]; unfold framesR; rw [if_neg (hE ▸ h)]; rfl
  have HQF : Hid (¬ F = 0 → nQ = 0) := fun h => by rw [hnQ, hQ]; unfold framesR; rw [if_neg (hF ▸ h)]; rfl
  have HRL : Hid (R.length ≤ 100) := by show _ ≤ _; rw [hR]; exact framesR_len l
  have HQL : Hid (Q.length ≤ 100) := by show _ ≤ _; rw [hQ]; exact framesR_len m
  have HL : Hid (E = 0 → n ≤ 100) := fun h => by
    rw [hE] at h; unfold framesE at h
    rw [hn]
    split at h
    · cases h
    · omega
  have HM : Hid (F = 0 → q ≤ 100) := fun h => by
    rw [hF] at h; unfold framesE at h
    rw [hq]
    split at h
    · cases h
    · omega
  have HALL : Hid (E = 0 → F = 0 → n + q ≤ 100 → (∀ x r, m = x :: r → x.p.f = true) → ∀ (w' : World) (o : Value), Sls w' o (l ++ m) → Calls Try.prog 9 #[o] w' fun e w'' => ∃ a c, e = .returned (.tuple #[.slice a (nR + nQ) c, .int .i64 0]) ∧ Hid (Outs w'.heap.size w'' (.slice a (nR + nQ) c) (R ++ Q)) ∧ Below w'.heap.size w' w'') := fun h1 h2 h3 h4 w' o hs => by
    refine (frameAll_any o (l ++ m) w' hs (by rw [List.length_append, ← hn, ← hq]; omega)).mono ?_
    rw [framesE_append (hE ▸ h1) (hF ▸ h2) (by omega), framesR_append (hE ▸ h1) (hF ▸ h2) (by omega) h4, ← hR, ← hQ]
    rintro e w'' ⟨o, rfl, ho, hb⟩
    obtain ⟨a, c, rfl⟩ := ho.len
    rw [List.length_append, ← hnR, ← hnQ] at ho ⊢
    exact ⟨a, c, rfl, ho, hb⟩
  have HU : Hid (Sls w u l) := hu
  have HV : Hid (Sls w v m) := hv
  have HN : Hid (n = l.length) := hn
  have HQ2 : Hid (q = m.length) := hq
  have hnb : n ≤ 9223372036854775807 := by omega
  have hqb : q ≤ 9223372036854775807 := by omega
  have HF0 : Hid (0 < q → ∃ b off x r, va = some ⟨b, off, none⟩ ∧ b < w.heap.size ∧ w.cell? ⟨b, off + 3, none⟩ = some (.bool x.p.f) ∧ m = x :: r) := fun h0 => by
    obtain ⟨ao, c, e1, hc⟩ := hv.parts
    rw [ev] at e1
    injection e1 with e1 _ _
    subst e1
    obtain ⟨b, off, rfl, hb, hat⟩ := hc 0 (by omega)
    cases m with
    | nil => simp at hq; omega
    | cons x r => exact ⟨b, off, x, r, rfl, hb, by simpa using hat.2.2.2.1, rfl⟩
  clear hu hv hE hF hR hQ hnR hnQ hn hq hul hvl
  subst eu ev
  go_enter Try.func3, Try.ntmps3
  go_wp2_with fail
  refine (HA.out _ HU.out).mono ?_
  rintro e w1 ⟨a1, c1, rfl, o1, hb1⟩
  have B1 : Hid (Below w.heap.size w w1) := hb1
  clear hb1
  go_wp2_with fail
  refine (HB.out _ (HV.out.below B1.out)).mono ?_
  rintro e w2 ⟨a2, c2, rfl, o2, hb2⟩
  have O12 : Hid (Outs w.heap.size w2 (.slice a1 nR c1) R) := o1.out.below hb2
  have B2 : Hid (Below w.heap.size w w2) := B1.out.trans (hb2.mono B1.out.size)
  clear hb2 o1 B1
  go_wp2_with fail
  refine (frameBegun_any _).mono ?_
  rintro e w3 ⟨rfl, hb3⟩
  have O13 : Hid (Outs w.heap.size w3 (.slice a1 nR c1) R) := O12.out.below hb3
  have O23 : Hid (Outs w1.heap.size w3 (.slice a2 nQ c2) Q) := o2.out.below hb3
  have B3 : Hid (Below w.heap.size w w3) := B2.out.trans (hb3.mono B2.out.size)
  clear hb3 O12 o2 B2
  by_cases hE0 : E = 0
  case neg =>
    have h1 := HRE.out hE0
    subst h1
    by_cases hF0 : F = 0
    · subst hF0
      go_wp2
      go_ret
      exact ⟨rfl, B3.out⟩
    · have h2 := HQF.out hF0
      subst h2
      go_wp2
      go_ret
      exact ⟨rfl, B3.out⟩
  by_cases hF0 : F = 0
  case neg =>
    have h2 := HQF.out hF0
    subst h2
    subst hE0
    go_wp2
    go_ret
    exact ⟨rfl, B3.out⟩
  have hn1 := HL.out hE0
  have hq1 := HM.out hF0
  have HALL2 : Hid (n + q ≤ 100 → (∀ x r, m = x :: r → x.p.f = true) → ∀ (w' : World) (o : Value), Sls w' o (l ++ m) → Calls Try.prog 9 #[o] w' fun e w'' => ∃ a c, e = .returned (.tuple #[.slice a (nR + nQ) c, .int .i64 0]) ∧ Hid (Outs w'.heap.size w'' (.slice a (nR + nQ) c) (R ++ Q)) ∧ Below w'.heap.size w' w'') := HALL.out hE0 hF0
  subst hE0
  subst hF0
  by_cases hs : 100 < n + q
  · have hsi : (100 : Int) < (n : Int) + (q : Int) := by omega
    go_wp2
    go_ret
    exact ⟨rfl, B3.out⟩
  have hsi : ¬ (100 : Int) < (n : Int) + (q : Int) := by omega
  have A1 := app_two (P := Try.prog) w3 22 31 i0 _ 7 48 Try.underlying22 hi hz0 hz1 hz2 rfl (by decide) (.slice ua n uc) (.slice va q vc) n q (skCells l) (skCells m)
    (by have := HU.out.below B3.out; unfold Sls at this; rw [← HN.out] at this; exact this) (by have := HV.out.below B3.out; unfold Sls at this; rw [← HQ2.out] at this; exact this) (sk_one l) (sk_one m) (by unfold maxLen; omega) (by omega)
  obtain ⟨v4, w4, v5, w5, r4, r5, o5, b5⟩ := A1
  have S5 : Hid (Sls w5 v5 (l ++ m)) := by
    refine Sls.of_owns (base := w3.heap.size) ?_
    rw [List.length_append, ← HN.out, ← HQ2.out, skCells_append]; exact o5
  have O15 : Hid (Outs w.heap.size w5 (.slice a1 nR c1) R) := O13.out.below b5
  have O25 : Hid (Outs w1.heap.size w5 (.slice a2 nQ c2) Q) := O23.out.below b5
  have B5 : Hid (Below w.heap.size w w5) := B3.out.trans (b5.mono B3.out.size)
  have FIN : Hid (∀ (w6 : World) (a6 : Option Addr) (c6 : Nat), Outs w5.heap.size w6 (.slice a6 (nR + nQ) c6) (R ++ Q) → Below w5.heap.size w5 w6 → ∃ v7 w7 v8 w8, (Builtin.append_ #[23, 23] 23 #[.slice (some ⟨w6.heap.size, 0, none⟩) 0 0, .slice a1 nR c1]).run Try.prog (w6.alloc (.cells #[] 48)) = .ok v7 w7 ∧ (Builtin.append_ #[23, 23] 23 #[v7, .slice a2 nQ c2]).run Try.prog w7 = .ok v8 w8 ∧ Hid (Below w.heap.size w w8) ∧
      Hid (Calls Try.prog 11 #[.slice a6 (nR + nQ) c6, v8] w8 fun e w'' => e = .returned (.bool true) ∧ Below w8.heap.size w8 w'')) := fun w6 a6 c6 h1 h2 => by
    obtain ⟨v7, w7, v8, w8, r7, r8, o8, b8⟩ := Outs.two (O15.out.below h2) (O25.out.below h2) HRL.out HQL.out
    refine ⟨v7, w7, v8, w8, r7, r8, B5.out.trans ((h2.trans (b8.mono h2.size)).mono B5.out.size), ?_⟩
    have h3 := (h1.below b8).frs
    have := sameFrames_any _ _ _ _ w8 h3 o8.frs h1.bound2
    rw [show sameFs (R ++ Q) (R ++ Q) = true from decide_eq_true rfl] at this
    exact this
  clear o5 b5 O13 O23 O15 O25
  by_cases hq0 : 0 < q
  · obtain ⟨b, off, x, r, e1, hb, hc, hm⟩ := HF0.out hq0
    have hc3 := (B3.out.cell (p := ⟨b, off + 3, none⟩) hb).trans hc
    have hqi : (0 : Int) < (q : Int) := by omega
    subst e1
    cases hxf : x.p.f
    · rw [hxf] at hc3
      go_wp2
      go_ret
      exact ⟨rfl, B3.out⟩
    · rw [hxf] at hc3
      have HFST : Hid (∀ x r, m = x :: r → x.p.f = true) := fun y s e => by rw [hm] at e; injection e with e _; rw [← e]; exact hxf
      clear hm hxf hc
      go_wp2_with (at_builtin; first | (refine wpList_append_run rfl (.tmp 66) (.tmp 67) 22 22 rfl _ _ rfl rfl r4 ?_) | (refine wpList_append_run rfl (.tmp 68) (.tmp 69) 22 22 rfl _ _ rfl rfl r5 ?_))
      refine (HALL2.out (by omega) HFST.out w5 v5 S5.out).mono ?_
      rintro e w6 ⟨a6, c6, rfl, o6, hb6⟩
      obtain ⟨v7, w7, v8, w8, r7, r8, B8, C8⟩ := FIN.out w6 a6 c6 o6.out hb6
      clear hb6 o6 r4 r5 hc3
      go_wp2_with (at_builtin; first | (refine wpList_append_runG rfl (.tmp 78) (.tmp 79) 23 23 rfl _ _ rfl rfl r7 ?_) | (refine wpList_append_runG rfl (.tmp 80) (.tmp 81) 23 23 rfl _ _ rfl rfl r8 ?_))
      refine C8.out.mono ?_
      rintro e w9 ⟨rfl, hb9⟩
      have B9 : Hid (Below w.heap.size w w9) := B8.out.trans (hb9.mono B8.out.size)
      clear r7 r8 hb9
      go_wp2
      go_ret
      exact ⟨rfl, B9.out⟩
  · have hq00 : q = 0 := by omega
    have HFST : Hid (∀ x r, m = x :: r → x.p.f = true) := fun y s e => by have := HQ2.out; rw [e] at this; simp at this; omega
    subst hq00
    go_wp2_with (at_builtin; first | (refine wpList_append_run rfl (.tmp 66) (.tmp 67) 22 22 rfl _ _ rfl rfl r4 ?_) | (refine wpList_append_run rfl (.tmp 68) (.tmp 69) 22 22 rfl _ _ rfl rfl r5 ?_))
    refine (HALL2.out (by omega) HFST.out w5 v5 S5.out).mono ?_
    rintro e w6 ⟨a6, c6, rfl, o6, hb6⟩
    obtain ⟨v7, w7, v8, w8, r7, r8, B8, C8⟩ := FIN.out w6 a6 c6 o6.out hb6
    clear hb6 o6 r4 r5
    go_wp2_with (at_builtin; first | (refine wpList_append_runG rfl (.tmp 78) (.tmp 79) 23 23 rfl _ _ rfl rfl r7 ?_) | (refine wpList_append_runG rfl (.tmp 80) (.tmp 81) 23 23 rfl _ _ rfl rfl r8 ?_))
    refine C8.out.mono ?_
    rintro e w9 ⟨rfl, hb9⟩
    have B9 : Hid (Below w.heap.size w w9) := B8.out.trans (hb9.mono B8.out.size)
    clear r7 r8 hb9
    go_wp2
    go_ret
    exact ⟨rfl, B9.out⟩

end Go.Proofs.Ytdcdfpjjdobmhac
