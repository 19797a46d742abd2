/-
  The walk of switchbacklaw.StoreStays.
-/
import Derived.Test.YtgmnhbmjnllhhacStoreMath
import Derived.Test.YtgmnhbmjnllhhacStoreBegun
import Derived.Test.YtgmnhbmjnllhhacStay
import Derived.Deep.DeepCutAuto
namespace Go.Proofs.Ytgmnhbmjnllhhac
open Go.RowKit

theorem heldB3 {W X Y : World} {a b c : Addr} {u v z : Value} (h : X.cell? a = some u ∧ X.cell? b = some v ∧ X.cell? c = some z ∧ Below W.heap.size W X) (k : Below X.heap.size X Y) : Y.cell? a = some u ∧ Y.cell? b = some v ∧ Y.cell? c = some z ∧ Below W.heap.size W Y :=
  ⟨(k.cell (block_lt_of_cell h.1)).trans h.1, (k.cell (block_lt_of_cell h.2.1)).trans h.2.1, (k.cell (block_lt_of_cell h.2.2.1)).trans h.2.2.1, h.2.2.2.trans (k.mono h.2.2.2.size)⟩

set_option maxHeartbeats 8000000 in
set_option maxRecDepth 100000 in
theorem storeStays_any (first : Int) (gv ov pv : Value) (L : List (List Fr)) (O : List Fr) (f : Fr) (w : World) (hg : GrsIn (fun _ => True) w gv L) (ho : FrsIn (fun _ => True) w ov O) (hp : StrsIn (fun _ => True) w pv f.parts) :
    Calls Try.prog 8 #[.agg #[.int .i64 first, gv, ov], .agg #[.int .i64 f.time, .bool f.key, pv]] w fun e w' => e = .returned (.bool true) ∧ Below w.heap.size w w' := by
  obtain ⟨ga, gc, eg, _, _⟩ := hg.len
  obtain ⟨oa, oc, eo, _, _⟩ := ho.len
  obtain ⟨pa, pc, ep⟩ := hp.1.len
  obtain ⟨ln, hln⟩ : ∃ n, n = L.length := ⟨_, rfl⟩
  obtain ⟨lo, hlo⟩ : ∃ n, n = O.length := ⟨_, rfl⟩
  obtain ⟨pn, hpn⟩ : ∃ n, n = f.parts.length := ⟨_, rfl⟩
  rw [← hln] at eg
  rw [← hlo] at eo
  rw [← hpn] at ep
  obtain ⟨ft, hft⟩ : ∃ t, t = f.time := ⟨_, rfl⟩
  obtain ⟨fk, hfk⟩ : ∃ t, t = f.key := ⟨_, rfl⟩
  obtain ⟨E, hE⟩ : ∃ E, E = addsE first L O f := ⟨_, rfl⟩
  obtain ⟨F, hF⟩ : ∃ E, E = addsF first L O f := ⟨_, rfl⟩
  obtain ⟨LA, hLA⟩ : ∃ E, E = addsL first L O f := ⟨_, rfl⟩
  obtain ⟨OA, hOA⟩ : ∃ E, E = addsO first L O f := ⟨_, rfl⟩
  obtain ⟨B, hB⟩ : ∃ E, E = addsB first L O f := ⟨_, rfl⟩
  obtain ⟨nA, hnA⟩ : ∃ n, n = LA.length := ⟨_, rfl⟩
  obtain ⟨nO, hnO⟩ : ∃ n, n = OA.length := ⟨_, rfl⟩
  have HADD : Hid (∀ U, Below w.heap.size w U → Calls Try.prog 21 #[.agg #[.int .i64 first, gv, ov], .agg #[.int .i64 ft, .bool fk, pv]] U fun e w' => ∃ va vc qa qc, e = .returned (.tuple #[.agg #[.int .i64 F, .slice va nA vc, .slice qa nO qc], .bool B, .int .i64 E]) ∧ Hid (GrsIn (fun _ => True) w' (.slice va nA vc) LA) ∧ Hid (FrsIn (fun _ => True) w' (.slice qa nO qc) OA) ∧ Below U.heap.size U w') := fun U hU => by
    rw [hft, hfk]
    refine (storeAdd_any first gv ov pv L O f U (hg.below hU) (ho.below hU) (hp.below hU)).mono ?_
    rintro e w' ⟨gv', ov', rfl, h1, h2, h3⟩
    rw [← hLA] at h1
    rw [← hOA] at h2
    obtain ⟨va, vc, ev, _, _⟩ := h1.len
    obtain ⟨qa, qc, eq, _, _⟩ := h2.len
    rw [← hnA] at ev
    rw [← hnO] at eq
    subst ev eq
    rw [← hE, ← hF, ← hB]
    exact ⟨va, vc, qa, qc, rfl, h1, h2, h3⟩
  have HBAD : Hid (¬ E = 0 → B = false ∧ nA = 0) := fun h => by
    rw [hE] at h
    obtain ⟨_, h2, _, h4⟩ := addsE_bad h
    rw [hB, hnA, hLA, h2, h4]; exact ⟨rfl, rfl⟩
  have HGOOD : Hid (E = 0 → stchk F LA OA = 0 ∧ first ≤ F ∧ 0 ≤ first ∧ F ≤ 100000 ∧ ln ≤ 5 ∧ (B = true → 0 < nA) ∧ (0 < ln → 0 < nA) ∧ (∀ i, i < ln → (first + i < F → getE F LA OA (first + i) = 5) ∧ (F ≤ first + i → getE F LA OA (first + i) = 0 ∧ getG F LA OA (first + i) = grAt L i)) ∧ (B = true → getE F LA OA (first + ln) = 0 ∧ getG F LA OA (first + ln) = O) ∧ (B = false → F = first ∧ nA = ln)) := fun h => by
    rw [hE] at h
    have r1 := adds_right h
    obtain ⟨r2, r3, r4⟩ := adds_last h
    obtain ⟨s1, s2, s3, s4, s5, s6, s7⟩ := addsE_zero h
    obtain ⟨t1, t2, t3, _⟩ := stchk_zero.1 s1
    rw [hF, hLA, hOA, hB, hnA, hln, hLA]
    refine ⟨r1, r3, t1, by omega, t3, fun hb => ?_, fun hl => r4 (by simp; omega), fun i hi => ?_, fun hb => ?_, fun hb => ?_⟩
    · rw [s7, decide_eq_true_eq] at hb
      exact r4 (by simp; omega)
    · obtain ⟨u1, u2⟩ := adds_get h (i := i) (by simp; omega)
      refine ⟨u1, fun hn => ⟨(u2 (by omega)).1, ?_⟩⟩
      rw [(u2 (by omega)).2, grAt_append, if_pos hi]
    · rcases closedG_cases O f with ⟨e, _⟩ | ⟨e, _, _⟩
      · rw [s7, e] at hb; simp at hb
      · obtain ⟨u1, u2⟩ := adds_get h (i := L.length) (by rw [e]; simp)
        rw [e] at r2
        have hn : ¬ first + (L.length : Int) < addsF first L O f := by simp at r2; omega
        refine ⟨(u2 hn).1, ?_⟩
        rw [(u2 hn).2, e, grAt_append, if_neg (by omega), Nat.sub_self]; rfl
    · obtain ⟨u1, u2⟩ := adds_open h hb
      exact ⟨u1, by rw [u2]⟩
  have HLL : Hid (∀ i, i < ln → (grAt L i).length ≤ 9223372036854775807) := fun i hi => by
    obtain ⟨ao, c, _, _, _, hc⟩ := hg
    obtain ⟨b, off, _, _, _, sv, _, h5⟩ := hc i (by rw [← hln]; exact hi)
    obtain ⟨_, _, _, _, h7⟩ := h5.len
    exact h7
  have HOL : Hid (O.length ≤ 9223372036854775807) := by
    obtain ⟨_, _, _, _, h7⟩ := ho.len
    exact h7
  have HS : Hid (Stay w (fun U => GrsIn (fun _ => True) U gv L ∧ FrsIn (fun _ => True) U ov O ∧ Below w.heap.size w U)) := hg.stay.and (ho.stay.and (below_stay0 w))
  have HLN : Hid (ln = L.length) := hln
  have HLO : Hid (lo = O.length) := hlo
  rw [← hft, ← hfk]
  clear hg ho hp hE hF hLA hOA hB hnA hnO hft hfk hln hlo hpn
  subst eg eo ep
  go_enter Try.func8, Try.ntmps8
  go_wp2_with fail
  obtain ⟨W0, hW0⟩ : ∃ W0, W0 = (w.alloc (.cells #[.int .i64 first, .slice ga ln gc, .slice oa lo oc] 51)).alloc (.cells #[.int .i64 ft, .bool fk, .slice pa pn pc] 48) := ⟨_, rfl⟩
  have HS0 : Hid (Stay W0 (fun U => Blk U w.heap.size #[.int .i64 first, .slice ga ln gc, .slice oa lo oc] 51 ∧ GrsIn (fun _ => True) U (.slice ga ln gc) L ∧ FrsIn (fun _ => True) U (.slice oa lo oc) O ∧ Below w.heap.size w U)) := by
    rw [hW0]; exact (((Blk.new _ _ _).alloc _).stay).and ((HS.out.alloc _).alloc _)
  rw [← hW0]
  clear hW0 HS
  refine (HADD.out _ HS0.out.now.2.2.2).mono ?_
  rintro e w1 ⟨va, vc, qa, qc, rfl, G1, O1, b1⟩
  obtain ⟨W1, hW1⟩ : ∃ W1, W1 = w1.alloc (.cells #[.int .i64 F, .slice va nA vc, .slice qa nO qc] 51) := ⟨_, rfl⟩
  have HS1 : Hid (Stay W1 (fun U => (Blk U w1.heap.size #[.int .i64 F, .slice va nA vc, .slice qa nO qc] 51 ∧ GrsIn (fun _ => True) U (.slice va nA vc) LA ∧ FrsIn (fun _ => True) U (.slice qa nO qc) OA) ∧ (Blk U w.heap.size #[.int .i64 first, .slice ga ln gc, .slice oa lo oc] 51 ∧ GrsIn (fun _ => True) U (.slice ga ln gc) L ∧ FrsIn (fun _ => True) U (.slice oa lo oc) O ∧ Below w.heap.size w U))) := by
    rw [hW1]; exact ((Blk.new _ _ _).stay.and ((G1.out.alloc _).stay.and (O1.out.alloc _).stay)).and ((HS0.out.step b1).alloc _)
  clear b1 HS0 G1 O1 HADD
  go_wp2_with fail
  rw [← hW1]
  clear hW1
  refine (storeBegun_any _).mono ?_
  rintro e w2 ⟨rfl, b2⟩
  have HS2 := HS1.out.step b2
  clear b2 HS1
  by_cases hE : E = 0
  case neg =>
    obtain ⟨rfl, rfl⟩ := HBAD.out hE
    obtain ⟨k0, k1, k2⟩ := HS2.now.1.1.three
    have BW : Hid (Below w.heap.size w w2) := HS2.now.2.2.2.2
    clear HS2
    go_wp2
    go_ret
    exact ⟨rfl, BW.out⟩
  obtain ⟨hck, hF1, hf0, hF2, hl5, hB1, hl1, hget, hget2, hopen⟩ := HGOOD.out hE
  subst hE
  have HCK : Hid (Calls Try.prog 30 #[.agg #[.int .i64 F, .slice va nA vc, .slice qa nO qc]] w2 fun e w' => e = .returned (.int .i64 0) ∧ Below w2.heap.size w2 w') := by
    have := storeCheck_any _ F _ _ LA OA w2 HS2.now.1.2.1 HS2.now.1.2.2
    rw [hck] at this
    exact this
  have HGET : Hid (∀ (i : Int) (U : World), i ≤ 1000000 → (GrsIn (fun _ => True) U (.slice va nA vc) LA ∧ FrsIn (fun _ => True) U (.slice qa nO qc) OA) → Calls Try.prog 23 #[.agg #[.int .i64 F, .slice va nA vc, .slice qa nO qc], .int .i64 i] U fun e w' => ∃ a c, e = .returned (.tuple #[.agg #[.slice a (getG F LA OA i).length c], .int .i64 (getE F LA OA i)]) ∧ FrsIn (fun _ => True) w' (.slice a (getG F LA OA i).length c) (getG F LA OA i) ∧ Below U.heap.size U w') := fun i U hi h => storeGet_any F _ _ LA OA i U h.1 h.2 (by omega)
  have HB1 : Hid (B = true → 0 < nA) := hB1
  have HL1 : Hid (0 < ln → 0 < nA) := hl1
  have HG1 : Hid (∀ i, i < ln → (first + i < F → getE F LA OA (first + i) = 5) ∧ (F ≤ first + i → getE F LA OA (first + i) = 0 ∧ getG F LA OA (first + i) = grAt L i)) := hget
  have HG2 : Hid (B = true → getE F LA OA (first + ln) = 0 ∧ getG F LA OA (first + ln) = O) := hget2
  have HOP : Hid (B = false → F = first ∧ nA = ln) := hopen
  have hFl : ¬ F < first := by omega
  clear hck hB1 hl1 hget hget2 hopen HGOOD HBAD
  have HS3 : Hid (Stay w2 _) := HS2
  clear HS2
  obtain ⟨k0, k1, k2⟩ := HS3.out.now.1.1.three
  obtain ⟨j0, j1, j2⟩ := HS3.out.now.2.1.three
  go_upto_region 6 with fail
  go_cut [62] (fun s62 wc => s62 = .bool false ∧ Hid (Below w2.heap.size w2 wc))
  case first =>
    go_wp2_with fail
    refine HCK.out.mono ?_
    rintro e w3 ⟨rfl, b3⟩
    have HS4 : Hid (Stay w3 _) := HS3.out.step b3
    have B3 : Hid (Below w2.heap.size w2 w3) := b3
    clear b3 k0 k1 k2 j0 j1 j2
    obtain ⟨k0, k1, k2⟩ := HS4.out.now.1.1.three
    obtain ⟨j0, j1, j2⟩ := HS4.out.now.2.1.three
    have hnn : B = true → ¬ (nA : Int) = 0 := fun h => by have := HB1.out h; omega
    have hnl : 0 < ln → ¬ (nA : Int) = 0 := fun h => by have := HL1.out h; omega
    cases B
    · by_cases hl : 0 < ln
      · have hz : ¬ (nA : Int) = 0 := hnl hl
        clear hnn hnl
        go_wp2_with fail
        go_meet
        case rel => exact ⟨by simp; omega, B3.out⟩
      · clear hnn hnl
        go_wp2_with fail
        go_meet
        case rel => exact ⟨by simp; omega, B3.out⟩
    · have hz : ¬ (nA : Int) = 0 := hnn rfl
      by_cases hl : 0 < ln
      · clear hnn hnl
        go_wp2_with fail
        go_meet
        case rel => exact ⟨by simp; omega, B3.out⟩
      · clear hnn hnl
        go_wp2_with fail
        go_meet
        case rel => exact ⟨by simp; omega, B3.out⟩
  case rest =>
    obtain ⟨rfl, HB⟩ := hcut
    have HS5 : Hid (Stay wc _) := HS3.out.step HB.out
    clear HS3 HB k0 k1 k2 j0 j1 j2 HCK HB1 HL1
    go_wp2_with fail
    go_loopw [8] (fun i wr => ∃ k : Nat, k ≤ ln ∧ i = .int .i64 k ∧ Hid (Stay wr (fun U => (Blk U w1.heap.size #[.int .i64 F, .slice va nA vc, .slice qa nO qc] 51 ∧ GrsIn (fun _ => True) U (.slice va nA vc) LA ∧ FrsIn (fun _ => True) U (.slice qa nO qc) OA) ∧ (Blk U w.heap.size #[.int .i64 first, .slice ga ln gc, .slice oa lo oc] 51 ∧ GrsIn (fun _ => True) U (.slice ga ln gc) L ∧ FrsIn (fun _ => True) U (.slice oa lo oc) O ∧ Below w.heap.size w U))))
      (fun i _ => ln - (intOf i).toNat)
    case atStart => exact ⟨0, Nat.zero_le _, rfl, HS5.out⟩
    case round =>
      obtain ⟨k, hk, rfl, HS6⟩ := hrel
      clear HS5
      obtain ⟨k0, k1, k2⟩ := HS6.out.now.1.1.three
      obtain ⟨j0, j1, j2⟩ := HS6.out.now.2.1.three
      by_cases hlt : k < ln
      · have hlti : (k : Int) < (ln : Int) := by omega
        obtain ⟨X, hX⟩ : ∃ X, X = getG F LA OA (first + k) := ⟨_, rfl⟩
        obtain ⟨Y, hY⟩ : ∃ Y, Y = getE F LA OA (first + k) := ⟨_, rfl⟩
        obtain ⟨nX, hnX⟩ : ∃ n, n = X.length := ⟨_, rfl⟩
        have HC : Hid (∀ U : World, (GrsIn (fun _ => True) U (.slice va nA vc) LA ∧ FrsIn (fun _ => True) U (.slice qa nO qc) OA) → Calls Try.prog 23 #[.agg #[.int .i64 F, .slice va nA vc, .slice qa nO qc], .int .i64 (first + k)] U fun e w' => ∃ a c, e = .returned (.tuple #[.agg #[.slice a nX c], .int .i64 Y]) ∧ Hid (FrsIn (fun _ => True) w' (.slice a nX c) X) ∧ Below U.heap.size U w') := fun U h => by
          rw [hnX, hX, hY]; exact HGET.out (first + k) U (by omega) h
        have HXY : Hid ((first + k < F → Y = 5) ∧ (F ≤ first + k → Y = 0 ∧ X = grAt L k)) := by rw [hX, hY]; exact HG1.out k hlt
        have HNX : Hid (nX = X.length) := hnX
        clear hX hY hnX
        go_wp2_with fail
        refine (HC.out _ ⟨HS6.out.now.1.2.1, HS6.out.now.1.2.2⟩).mono ?_
        rintro e w7 ⟨xa, xc, rfl, F7, b7⟩
        obtain ⟨W7, hW7⟩ : ∃ W7, W7 = w7.alloc (.cells #[.slice xa nX xc] 35) := ⟨_, rfl⟩
        have HS7 := (HS6.out.step b7).allocE hW7
        have X7 := ((Blk.newE hW7).stay.and (F7.out.allocE hW7).stay).hid
        clear HC F7 b7 HS6 k0 k1 k2 j0 j1 j2
        obtain ⟨k0, k1, k2⟩ := HS7.out.now.1.1.three
        obtain ⟨j0, j1, j2⟩ := HS7.out.now.2.1.three
        have x0 := X7.out.now.1.one
        by_cases hF : first + k < F
        · have hY := HXY.out.1 hF
          subst hY hW7
          go_wp2_with fail
          go_roundw
          case rel => exact ⟨k + 1, by omega, by go_num, HS7.out⟩
          case measure => simp [intOf]; omega
        · obtain ⟨hY, hXL⟩ := HXY.out.2 (by omega)
          subst hY
          have HXL : Hid (X = grAt L k) := hXL
          clear hXL
          obtain ⟨ao', c', eu, _, _, hc⟩ := HS7.out.now.2.2.1
          rw [← HLN.out] at eu
          injection eu with eu eu2 eu3
          clear eu2
          subst eu eu3
          obtain ⟨b, off, e1, hb, _, sv, c0, hsv⟩ := hc k (by rw [← HLN.out]; exact hlt)
          rw [show L[k]?.getD [] = X from HXL.out.symm] at hsv
          obtain ⟨sa, sc, es, _, hsl⟩ := hsv.len
          rw [← HNX.out] at es hsl
          have HX9 : Hid (Stay W7 (fun U => FrsIn (fun _ => True) U (.slice sa nX sc) X)) := by rw [← es]; exact hsv.stay
          have HSL : Hid (nX ≤ 9223372036854775807) := hsl
          have HSF : Hid (∀ U : World, Below W7.heap.size W7 U → Calls Try.prog 11 #[.slice xa nX xc, .slice sa nX sc] U fun e w' => e = .returned (.bool true) ∧ Below U.heap.size U w') := fun U h1 => by
            have := sameFrames_any _ _ _ _ U (X7.out U h1).2.frs (HX9.out U h1).frs (by rw [← HNX.out]; exact HSL.out)
            rw [show sameFs X X = true from decide_eq_true rfl] at this
            exact this
          have HSG : Hid (∀ U : World, (U.cell? ⟨w7.heap.size, 0, none⟩ = some (.slice xa nX xc) ∧ U.cell? ⟨w.heap.size, 1, none⟩ = some (.slice (some ⟨b, off, none⟩) ln gc) ∧ U.cell? ⟨b, off + k, none⟩ = some (.slice sa nX sc) ∧ Below W7.heap.size W7 U) → Calls Try.prog 11 #[.slice xa nX xc, .slice sa nX sc] U fun e w' => e = .returned (.bool true) ∧ Below U.heap.size U w') := fun U h => HSF.out U h.2.2.2
          have hFk : ¬ first + (k : Int) < F := hF
          have hkl : (k : Int) < (ln : Int) := by omega
          subst e1 es hW7
          clear hc hsv hF
          go_wp2_with fail
          go_region_held3 (fun w' => w'.cell? ⟨w7.heap.size, 0, none⟩ = some (.slice xa nX xc) ∧ w'.cell? ⟨w.heap.size, 1, none⟩ = some (.slice (some ⟨b, off, none⟩) ln gc) ∧ w'.cell? ⟨b, off + k, none⟩ = some (.slice sa nX sc) ∧ Below (w7.alloc (.cells #[.slice xa nX xc] 35)).heap.size (w7.alloc (.cells #[.slice xa nX xc] 35)) w') (first | exact ⟨x0, j1, c0, Below.drew (Below.refl _ _)⟩ | exact heldB3 (by assumption) (by assumption) | (refine heldB3 ?_ ?_ <;> assumption))
            (first
              | (go_at_call 11; refine (HSG.out _ (by assumption)).mono ?_; rintro e w14 ⟨rfl, b14⟩))
          have hS : Below (w7.alloc (.cells #[.slice xa nX xc] 35)).heap.size (w7.alloc (.cells #[.slice xa nX xc] 35)) w14 := by
            have hh : w14.cell? ⟨w7.heap.size, 0, none⟩ = some (.slice xa nX xc) ∧ w14.cell? ⟨w.heap.size, 1, none⟩ = some (.slice (some ⟨b, off, none⟩) ln gc) ∧ w14.cell? ⟨b, off + k, none⟩ = some (.slice sa nX sc) ∧ Below (w7.alloc (.cells #[.slice xa nX xc] 35)).heap.size (w7.alloc (.cells #[.slice xa nX xc] 35)) w14 := by assumption
            exact hh.2.2.2
          have HS9 := Stay.go HS7 hS
          clear hS HS7 X7 HSG HSF HX9
          go_wp2_with fail
          go_roundw
          case rel => exact ⟨k + 1, by omega, by go_num, HS9.out⟩
          case measure => simp [intOf]; omega
      · have hkl : k = ln := by omega
        have HKL : Hid (k = ln) := hkl
        cases B
        · obtain ⟨e1, e2⟩ := HOP.out rfl
          subst hkl e1 e2
          have BW : Hid (Below w.heap.size w wr) := HS6.out.now.2.2.2.2
          go_wp2
          go_ret
          exact ⟨rfl, BW.out⟩
        · obtain ⟨e1, e2⟩ := HG2.out rfl
          have HC := HGET.out (first + ln) wr (by omega) ⟨HS6.out.now.1.2.1, HS6.out.now.1.2.2⟩
          rw [e1, e2, ← HLO.out] at HC
          subst hkl
          go_wp2_with fail
          refine HC.mono ?_
          rintro e w7 ⟨xa, xc, rfl, F7, b7⟩
          obtain ⟨W7, hW7⟩ : ∃ W7, W7 = w7.alloc (.cells #[.slice xa lo xc] 35) := ⟨_, rfl⟩
          have HS7 := (HS6.out.step b7).allocE hW7
          have X7 := ((Blk.newE hW7).stay.and (F7.allocE hW7).stay).hid
          clear HC F7 b7 HS6 k0 k1 k2 j0 j1 j2
          obtain ⟨k0, k1, k2⟩ := HS7.out.now.1.1.three
          obtain ⟨j0, j1, j2⟩ := HS7.out.now.2.1.three
          have x0 := X7.out.now.1.one
          subst hW7
          go_wp2_with fail
          refine (sameFrames_any _ _ _ _ _ X7.out.now.2.frs HS7.out.now.2.2.2.1.frs HOL.out).mono ?_
          rw [show sameFs O O = true from decide_eq_true rfl]
          rintro e w8 ⟨rfl, b8⟩
          have BW : Hid (Below w.heap.size w w8) := (HS7.out.step b8).now.2.2.2.2
          clear b8 HS7 X7
          go_wp2
          go_ret
          exact ⟨rfl, BW.out⟩

end Go.Proofs.Ytgmnhbmjnllhhac
