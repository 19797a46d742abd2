/-
  The walk of switchbacklaw.StoreTells.
-/
import Derived.Test.YtgmnhbmjnllhhacRefStore3
import Derived.Test.YtgmnhbmjnllhhacRefStore4
import Derived.Test.YtgmnhbmjnllhhacStoreBegun
import Derived.Test.YtgmnhbmjnllhhacRefFrame
namespace Go.Proofs.Ytgmnhbmjnllhhac
open Go.RowKit

set_option maxHeartbeats 16000000 in
set_option maxRecDepth 100000 in
theorem storeTells_any (first : Int) (gv ov pv : Value) (L : List (List Fr)) (O : List Fr) (f : Fr) (t n : Int) (w : World) (hg : GrsIn (fun _ => True) w gv L) (ho : FrsIn (fun _ => True) w ov O) (hp : StrsIn (fun _ => True) w pv f.parts) (hnb : n ≤ 9223372036854775807) :
    Calls Try.prog 7 #[.agg #[.int .i64 first, gv, ov], .agg #[.int .i64 f.time, .bool f.key, pv], .int .i64 t, .int .i64 n] w fun e w' => e = .returned (.bool true) ∧ Below w.heap.size w w' := by
  obtain ⟨ga, gc, eg, _, _⟩ := hg.len
  obtain ⟨oa, oc, eo, _, _⟩ := ho.len
  obtain ⟨pa, pc, ep⟩ := hp.1.len
  obtain ⟨ln, hln⟩ : ∃ n, n = L.length := ⟨_, rfl⟩
  obtain ⟨lo, hlo⟩ : ∃ n, n = O.length := ⟨_, rfl⟩
  obtain ⟨pn, hpn⟩ : ∃ n, n = f.parts.length := ⟨_, rfl⟩
  rw [← hln] at eg
  rw [← hlo] at eo
  rw [← hpn] at ep
  obtain ⟨ft, hft⟩ : ∃ t, t = f.time := ⟨_, rfl⟩
  obtain ⟨fk, hfk⟩ : ∃ t, t = f.key := ⟨_, rfl⟩
  obtain ⟨E1, hE1⟩ : ∃ E, E = addsE first L O f := ⟨_, rfl⟩
  obtain ⟨F1, hF1⟩ : ∃ E, E = addsF first L O f := ⟨_, rfl⟩
  obtain ⟨L1, hL1⟩ : ∃ E, E = addsL first L O f := ⟨_, rfl⟩
  obtain ⟨O1, hO1⟩ : ∃ E, E = addsO first L O f := ⟨_, rfl⟩
  obtain ⟨B1, hB1⟩ : ∃ E, E = addsB first L O f := ⟨_, rfl⟩
  obtain ⟨nA, hnA⟩ : ∃ n, n = L1.length := ⟨_, rfl⟩
  obtain ⟨nO, hnO⟩ : ∃ n, n = O1.length := ⟨_, rfl⟩
  obtain ⟨E2, hE2⟩ : ∃ E, E = seekE first L O t := ⟨_, rfl⟩
  obtain ⟨N2, hN2⟩ : ∃ E, E = seekN first L O t := ⟨_, rfl⟩
  obtain ⟨E3, hE3⟩ : ∃ E, E = getE first L O n := ⟨_, rfl⟩
  obtain ⟨G3, hG3⟩ : ∃ E, E = getG first L O n := ⟨_, rfl⟩
  obtain ⟨nG, hnG⟩ : ∃ n, n = G3.length := ⟨_, rfl⟩
  obtain ⟨U, hU⟩ : ∃ E, E = stchk first L O := ⟨_, rfl⟩
  obtain ⟨Z, hZ⟩ : ∃ E, E = f.chk := ⟨_, rfl⟩
  obtain ⟨A, hA⟩ : ∃ E, E = allG L O := ⟨_, rfl⟩
  obtain ⟨q, hq⟩ : ∃ n, n = A.length := ⟨_, rfl⟩
  obtain ⟨V, hV⟩ : ∃ E : Int, E = if U = 0 then Z else U := ⟨_, rfl⟩
  obtain ⟨C, hC⟩ : ∃ b : Bool, b = decide (U = 0 ∧ (t < 0 ∨ 1000000 < t)) := ⟨_, rfl⟩
  obtain ⟨X, hX⟩ : ∃ E : Int, E = if C then 3 else U := ⟨_, rfl⟩
  have HADD : Hid (∀ U : World, Below w.heap.size w U → Calls Try.prog 21 #[.agg #[.int .i64 first, gv, ov], .agg #[.int .i64 ft, .bool fk, pv]] U fun e w' => ∃ va vc qa qc, e = .returned (.tuple #[.agg #[.int .i64 F1, .slice va nA vc, .slice qa nO qc], .bool B1, .int .i64 E1]) ∧ Hid (GrsIn (fun _ => True) w' (.slice va nA vc) L1) ∧ Hid (FrsIn (fun _ => True) w' (.slice qa nO qc) O1) ∧ Below U.heap.size U w') := fun U hU => by
    rw [hft, hfk]
    refine (storeAdd_any first gv ov pv L O f U (hg.below hU) (ho.below hU) (hp.below hU)).mono ?_
    rintro e w' ⟨gv', ov', rfl, h1, h2, h3⟩
    rw [← hL1] at h1
    rw [← hO1] at h2
    obtain ⟨va, vc, ev, _, _⟩ := h1.len
    obtain ⟨qa, qc, eq, _, _⟩ := h2.len
    rw [← hnA] at ev
    rw [← hnO] at eq
    subst ev eq
    rw [← hE1, ← hF1, ← hB1]
    exact ⟨va, vc, qa, qc, rfl, h1, h2, h3⟩
  have HSEEK : Hid (∀ U : World, Below w.heap.size w U → Calls Try.prog 22 #[.agg #[.int .i64 first, gv, ov], .int .i64 t] U fun e w' => e = .returned (.tuple #[.int .i64 N2, .int .i64 E2]) ∧ Below U.heap.size U w') := fun U hU => by
    rw [hN2, hE2]; exact storeSeek_any first gv ov L O t U (hg.below hU) (ho.below hU)
  have HGET : Hid (∀ U : World, Below w.heap.size w U → Calls Try.prog 23 #[.agg #[.int .i64 first, gv, ov], .int .i64 n] U fun e w' => ∃ a c, e = .returned (.tuple #[.agg #[.slice a nG c], .int .i64 E3]) ∧ Hid (FrsIn (fun _ => True) w' (.slice a nG c) G3) ∧ Below U.heap.size U w') := fun U hU => by
    rw [hnG, hG3, hE3]; exact storeGet_any first gv ov L O n U (hg.below hU) (ho.below hU) hnb
  have HCKR : Hid (∀ W : World, Below w.heap.size w W → Calls Try.prog 24 #[.agg #[.int .i64 first, gv, ov]] W fun e w' => e = .returned (.int .i64 U) ∧ Below W.heap.size W w') := fun W hW => by
    rw [hU]; exact refCheckStore_any _ first gv ov L O W (hg.below hW) (ho.below hW)
  have HCK : Hid (∀ W : World, Below w.heap.size w W → Calls Try.prog 30 #[.agg #[.int .i64 first, gv, ov]] W fun e w' => e = .returned (.int .i64 U) ∧ Below W.heap.size W w') := fun W hW => by
    rw [hU]; exact storeCheck_any _ first gv ov L O W (hg.below hW) (ho.below hW)
  have HCF : Hid (∀ W : World, Below w.heap.size w W → Calls Try.prog 25 #[.agg #[.int .i64 ft, .bool fk, pv]] W fun e w' => e = .returned (.int .i64 Z) ∧ Below W.heap.size W w') := fun W hW => by
    rw [hZ, hft, hfk]; exact refCheckFrame_any _ _ _ _ _ (hp.below hW).1 hp.2.1
  have HRADD : Hid (V = 0 → ∀ W : World, Below w.heap.size w W → Calls Try.prog 26 #[.agg #[.int .i64 first, gv, ov], .agg #[.int .i64 ft, .bool fk, pv]] W fun e w' => ∃ va vc qa qc, e = .returned (.tuple #[.agg #[.int .i64 F1, .slice va nA vc, .slice qa nO qc], .bool B1, .int .i64 E1]) ∧ Hid (GrsIn (fun g => g < w.heap.size ∨ W.heap.size ≤ g) w' (.slice va nA vc) L1) ∧ Hid (FrsIn (fun g => g < w.heap.size ∨ W.heap.size ≤ g) w' (.slice qa nO qc) O1) ∧ Below W.heap.size W w') := fun hv W hW => by
    have h12 : stchk first L O = 0 ∧ f.chk = 0 := by
      rw [hV] at hv
      by_cases h : U = 0
      · rw [if_pos h] at hv; exact ⟨by rw [← hU]; exact h, by rw [← hZ]; exact hv⟩
      · rw [if_neg h] at hv; exact absurd hv h
    rw [hft, hfk]
    refine (refStoreAdd_in (fun g => g < w.heap.size) first gv ov pv L O f W ((hg.mono fun g h _ => h).below hW) ((ho.mono fun g h _ => h).below hW) ((hp.mono fun g h _ => h).below hW) h12.1 h12.2).mono ?_
    rintro e w' ⟨gv', ov', rfl, h1, h2, h3⟩
    rw [← hL1] at h1
    rw [← hO1] at h2
    obtain ⟨va, vc, ev, _, _⟩ := h1.len
    obtain ⟨qa, qc, eq, _, _⟩ := h2.len
    rw [← hnA] at ev
    rw [← hnO] at eq
    subst ev eq
    rw [← hE1, ← hF1, ← hB1]
    exact ⟨va, vc, qa, qc, rfl, h1, h2, h3⟩
  have HVB : Hid (¬ V = 0 → E1 = V ∧ F1 = 0 ∧ L1 = [] ∧ O1 = [] ∧ B1 = false ∧ nA = 0 ∧ nO = 0) := fun h => by
    have e : E1 = V := by
      rw [hE1]; unfold addsE
      rw [hV] at h ⊢
      rw [← hU, ← hZ]
      by_cases h0 : U = 0
      · rw [if_pos h0] at h ⊢; rw [if_pos h0, if_neg h]
      · rw [if_neg h0] at h ⊢; rw [if_neg h0]
    obtain ⟨b1, b2, b3, b4⟩ := addsE_bad (first := first) (L := L) (O := O) (f := f) (by rw [← hE1, e]; exact h)
    refine ⟨e, by rw [hF1, b1], by rw [hL1, b2], by rw [hO1, b3], by rw [hB1, b4], by rw [hnA, hL1, b2]; rfl, by rw [hnO, hO1, b3]; rfl⟩
  have HRS : Hid (X = 0 → ∀ W : World, Below w.heap.size w W → Calls Try.prog 27 #[.agg #[.int .i64 first, gv, ov], .int .i64 t] W fun e w' => e = .returned (.tuple #[.int .i64 N2, .bool (decide (0 < q))]) ∧ Below W.heap.size W w') := fun hx W hW => by
    rw [hX, hC] at hx
    by_cases hc : U = 0 ∧ (t < 0 ∨ 1000000 < t)
    · rw [decide_eq_true hc, if_pos rfl] at hx; cases hx
    · rw [decide_eq_false hc, if_neg (by decide)] at hx
      have hr : stchk first L O = 0 := by rw [← hU]; exact hx
      have := seekOf_any first gv ov L O t W (hg.below hW) (ho.below hW) hr
      rw [← hA, ← hq] at this
      have he : seekE first L O t = if q = 0 then 5 else 0 := by
        unfold seekE; rw [if_pos hr, if_neg (by omega), if_neg (by omega), ← hA, ← hq]
      have hN : N2 = if q = 0 then 0 else first + seekI A t (q - 1) := by
        rw [hN2]; unfold seekN
        rw [he, ← hA, ← hq]
        by_cases h0 : q = 0
        · rw [if_pos h0, if_pos h0, if_neg (by decide)]
        · rw [if_neg h0, if_neg h0, if_pos rfl]
      rw [hN]
      exact this
  have HXB : Hid ((¬ X = 0 → E2 = X ∧ N2 = 0) ∧ (X = 0 → (q = 0 → E2 = 5) ∧ (¬ q = 0 → E2 = 0))) := by
    constructor
    · intro h
      have e : E2 = X := by
        rw [hE2]; unfold seekE
        rw [hX] at h ⊢
        rw [← hU]
        by_cases h0 : U = 0
        · rw [if_pos h0]
          by_cases h1 : t < 0
          · rw [if_pos h1, hC, decide_eq_true ⟨h0, .inl h1⟩]; rfl
          · rw [if_neg h1]
            by_cases h2 : 1000000 < t
            · rw [if_pos h2, hC, decide_eq_true ⟨h0, .inr h2⟩]; rfl
            · rw [hC, decide_eq_false (by omega), if_neg (by decide)] at h; exact absurd h0 h
        · rw [if_neg h0, hC, decide_eq_false (fun h => h0 h.1)]; rfl
      exact ⟨e, by rw [hN2]; unfold seekN; rw [← hE2, e, if_neg h]⟩
    · intro hx
      rw [hX, hC] at hx
      by_cases hc : U = 0 ∧ (t < 0 ∨ 1000000 < t)
      · rw [decide_eq_true hc, if_pos rfl] at hx; cases hx
      · rw [decide_eq_false hc, if_neg (by decide)] at hx
        have hr : stchk first L O = 0 := by rw [← hU]; exact hx
        refine ⟨fun h => ?_, fun h => ?_⟩
        · rw [hE2]; unfold seekE; rw [if_pos hr, if_neg (by omega), if_neg (by omega), ← hA, ← hq, if_pos h]
        · rw [hE2]; unfold seekE; rw [if_pos hr, if_neg (by omega), if_neg (by omega), ← hA, ← hq, if_neg h]
  have HALL : Hid (U = 0 → ∀ W : World, Below w.heap.size w W → Calls Try.prog 28 #[.agg #[.int .i64 first, gv, ov]] W fun e w' => ∃ a c, e = .returned (.slice a q c) ∧ Hid (GrsIn (fun g => g < w.heap.size ∨ W.heap.size ≤ g) w' (.slice a q c) A) ∧ Below W.heap.size W w') := fun h0 W hW => by
    have hr : stchk first L O = 0 := by rw [← hU]; exact h0
    obtain ⟨_, _, h3, _⟩ := stchk_zero.1 hr
    refine (allOf_in (fun g => g < w.heap.size) first gv ov L O W ((hg.mono fun g h _ => h).below hW) ((ho.mono fun g h _ => h).below hW) (by omega)).mono ?_
    rintro e w' ⟨v', rfl, h4, h5⟩
    rw [← hA] at h4
    obtain ⟨a, c, e, _, _⟩ := h4.len
    rw [← hq] at e
    subst e
    exact ⟨a, c, rfl, h4, h5⟩
  have HUB : Hid ((¬ U = 0 → E3 = U ∧ G3 = [] ∧ nG = 0) ∧ (U = 0 → 0 ≤ first ∧ first ≤ 100000 ∧ q ≤ 6 ∧ (n < first → E3 = 5 ∧ G3 = [] ∧ nG = 0) ∧ (first + q ≤ n → E3 = 5 ∧ G3 = [] ∧ nG = 0) ∧ (∀ d : Nat, n = first + d → d < q → E3 = 0 ∧ G3 = grAt A d))) := by
    constructor
    · intro h
      have e : E3 = U := by rw [hE3]; unfold getE; rw [← hU, if_neg h]
      have e2 : G3 = [] := by rw [hG3]; unfold getG; rw [← hE3, e, if_neg h]
      exact ⟨e, e2, by rw [hnG, e2]; rfl⟩
    · intro h
      have hr : stchk first L O = 0 := by rw [← hU]; exact h
      obtain ⟨h1, h2, h3, _⟩ := stchk_zero.1 hr
      refine ⟨h1, h2, by rw [hq, hA]; exact allG_len L O h3, fun h4 => ?_, fun h4 => ?_, fun d h4 h5 => ?_⟩
      · obtain ⟨u1, u2⟩ := getE_out hr (.inl h4)
        exact ⟨by rw [hE3, u1], by rw [hG3, u2], by rw [hnG, hG3, u2]; rfl⟩
      · obtain ⟨u1, u2⟩ := getE_out hr (n := n) (.inr (by rw [← hA, ← hq]; exact h4))
        exact ⟨by rw [hE3, u1], by rw [hG3, u2], by rw [hnG, hG3, u2]; rfl⟩
      · obtain ⟨u1, u2⟩ := getE_in hr h4 (by rw [← hA, ← hq]; exact h5)
        exact ⟨by rw [hE3, u1], by rw [hG3, u2, hA]⟩
  have HFIN : Hid (¬ E1 = 0 → F1 = 0 ∧ L1 = [] ∧ O1 = []) := fun h => by
    obtain ⟨b1, b2, b3, _⟩ := addsE_bad (first := first) (L := L) (O := O) (f := f) (by rw [← hE1]; exact h)
    exact ⟨by rw [hF1, b1], by rw [hL1, b2], by rw [hO1, b3]⟩
  have HG6 : Hid (nG ≤ 9223372036854775807) := by
    show _ ≤ _
    by_cases h0 : U = 0
    · have hr : stchk first L O = 0 := by rw [← hU]; exact h0
      rw [hnG, hG3]; unfold getG
      split
      · rename_i he
        have hd : (n - first).toNat < (allG L O).length := by
          unfold getE at he; rw [if_pos hr] at he
          by_cases h1 : n < first
          · rw [if_pos h1] at he; cases he
          · rw [if_neg h1] at he
            by_cases h2 : ((allG L O).length : Int) ≤ n - first
            · rw [if_pos h2] at he; cases he
            · omega
        have := gchk_first (allG_right hr _ (grAt_mem hd))
        omega
      · simp
    · rw [(HUB.out.1 h0).2.2]; omega
  have HNG : Hid (nG = G3.length) := hnG
  have HQ : Hid (q = A.length) := hq
  have HS : Hid (Stay w (fun U => Below w.heap.size w U)) := below_stay0 w
  have HVV : Hid ((U = 0 → V = Z) ∧ (¬ U = 0 → V = U)) := by rw [hV]; exact ⟨fun h => if_pos h, fun h => if_neg h⟩
  have HCC : Hid (C = decide (U = 0 ∧ (t < 0 ∨ 1000000 < t))) := hC
  have HXX : Hid ((C = true → X = 3) ∧ (C = false → X = U)) := by rw [hX]; exact ⟨fun h => by rw [h]; rfl, fun h => by rw [h]; rfl⟩
  rw [← hft, ← hfk]
  clear hg ho hp hE1 hF1 hL1 hO1 hB1 hnA hnO hE2 hN2 hE3 hG3 hnG hU hZ hA hq hV hC hX hft hfk hln hlo hpn hnb
  subst eg eo ep
  go_enter Try.func7, Try.ntmps7
  go_wp2_with fail
  obtain ⟨W0, hW0⟩ : ∃ W0, W0 = (w.alloc (.cells #[.int .i64 first, .slice ga ln gc, .slice oa lo oc] 51)).alloc (.cells #[.int .i64 ft, .bool fk, .slice pa pn pc] 48) := ⟨_, rfl⟩
  have HS0 : Hid (Stay W0 (fun U => Blk U w.heap.size #[.int .i64 first, .slice ga ln gc, .slice oa lo oc] 51 ∧ Blk U (w.heap.size + 1) #[.int .i64 ft, .bool fk, .slice pa pn pc] 48 ∧ Below w.heap.size w U)) := by
    have k2 := Blk.newE hW0
    simp only [World.size_alloc] at k2
    have hb : Below w.heap.size w W0 := by rw [hW0]; exact ((Below.refl _ _).alloc (Nat.le_refl _) _).alloc (by simp) _
    exact (show Blk W0 w.heap.size _ _ by rw [hW0]; exact (Blk.new _ _ _).alloc _).stay.and (k2.stay.and (below_stay hb hb.size))
  rw [← hW0]
  clear hW0 HS
  refine (HADD.out _ HS0.out.now.2.2).mono ?_
  rintro e w1 ⟨va, vc, qa, qc, rfl, G1, O1', b1⟩
  obtain ⟨W1, hW1⟩ : ∃ W1, W1 = w1.alloc (.cells #[.int .i64 F1, .slice va nA vc, .slice qa nO qc] 51) := ⟨_, rfl⟩
  have HS1 := (HS0.out.step b1).allocE hW1
  have HA1 := ((Blk.newE hW1).stay.and ((G1.out.allocE hW1).stay.and (O1'.out.allocE hW1).stay)).hid
  obtain ⟨k0, k1, k2⟩ := HS1.out.now.1.three
  clear b1 HS0 G1 O1' HADD
  subst hW1
  go_wp2_with fail
  refine (HSEEK.out _ HS1.out.now.2.2).mono ?_
  rintro e w2 ⟨rfl, b2⟩
  have HS2 := Stay.go HS1 b2
  have HA2 := Stay.go HA1 b2
  clear b2 HS1 HA1 HSEEK k0 k1 k2
  obtain ⟨k0, k1, k2⟩ := HS2.out.now.1.three
  go_wp2_with fail
  refine (HGET.out _ HS2.out.now.2.2).mono ?_
  rintro e w3 ⟨xa, xc, rfl, G3', b3⟩
  obtain ⟨W3, hW3⟩ : ∃ W3, W3 = w3.alloc (.cells #[.slice xa nG xc] 35) := ⟨_, rfl⟩
  have HS3 := (HS2.out.step b3).allocE hW3
  have HA3 := (HA2.out.step b3).allocE hW3
  have HX3 := ((Blk.newE hW3).stay.and (G3'.out.allocE hW3).stay).hid
  clear b3 HS2 HA2 G3' HGET k0 k1 k2
  obtain ⟨k0, k1, k2⟩ := HS3.out.now.1.three
  subst hW3
  go_wp2_with fail
  refine (HCKR.out _ HS3.out.now.2.2).mono ?_
  rintro e w4 ⟨rfl, b4⟩
  have HS4 := Stay.go HS3 b4
  have HA4 := Stay.go HA3 b4
  have HX4 := Stay.go HX3 b4
  clear b4 HS3 HA3 HX3 HCKR k0 k1 k2
  go_upto_if 52 with fail
  go_cut [17] (fun s17 wc => s17 = .int .i64 V ∧ Hid (Below w4.heap.size w4 wc))
  case first =>
    by_cases h0 : U = 0
    · have hv := HVV.out.1 h0
      subst h0 hv
      obtain ⟨k0, k1, k2⟩ := HS4.out.now.2.1.three
      go_wp2_with fail
      refine (HCF.out _ HS4.out.now.2.2).mono ?_
      rintro e w5 ⟨rfl, b5⟩
      go_wp2_with fail
      go_meet
      case rel => exact ⟨rfl, b5⟩
    · have hv := HVV.out.2 h0
      subst hv
      go_wp2_with fail
      go_meet
      case rel => exact ⟨rfl, Below.refl _ _⟩
  case rest =>
    obtain ⟨rfl, HB⟩ := hcut
    clear HVV HCF
    go_upto_region 8 with fail
    go_cut [64] (fun s64 wd => s64 = .bool C ∧ wd = wc)
    case first =>
      by_cases hU0 : U = 0
      · subst hU0
        by_cases h1 : t < 0
        · have hc : C = true := by rw [HCC.out]; exact decide_eq_true ⟨rfl, .inl h1⟩
          go_wp2_with fail
          go_meet
          case rel => exact ⟨by rw [hc], rfl⟩
        · by_cases h2 : 1000000 < t
          · have hc : C = true := by rw [HCC.out]; exact decide_eq_true ⟨rfl, .inr h2⟩
            go_wp2_with fail
            go_meet
            case rel => exact ⟨by rw [hc], rfl⟩
          · have hc : C = false := by rw [HCC.out]; exact decide_eq_false (by omega)
            go_wp2_with fail
            go_meet
            case rel => exact ⟨by rw [hc], rfl⟩
      · have hc : C = false := by rw [HCC.out]; exact decide_eq_false (by omega)
        go_wp2_with fail
        go_meet
        case rel => exact ⟨by rw [hc], rfl⟩
    case rest =>
      obtain ⟨rfl, rfl⟩ := hcut
      go_upto_if 64 with fail
      go_cut [18] (fun s18 we => s18 = .int .i64 X ∧ we = wc)
      case first =>
        cases C
        · have hx := HXX.out.2 rfl
          subst hx
          go_wp2_with fail
          go_meet
          case rel => exact ⟨rfl, rfl⟩
        · have hx := HXX.out.1 rfl
          subst hx
          go_wp2_with fail
          go_meet
          case rel => exact ⟨rfl, rfl⟩
      case rest =>
        obtain ⟨rfl, rfl⟩ := hcut
        clear HXX HCC
        obtain ⟨wA, hwA⟩ : ∃ x, x = wc := ⟨wc, rfl⟩
        subst hwA
        go_upto_if 66 with fail
        obtain ⟨W5, hW5⟩ : ∃ W5, W5 = (wA.alloc (.cells #[.int .i64 0, .slice none 0 0, .slice none 0 0] 51)).alloc (.cells #[.slice none 0 0] 35) := ⟨_, rfl⟩
        have s4 : w4.heap.size ≤ wA.heap.size := HB.out.size
        have HB5 : Hid (Below w4.heap.size w4 W5) := by rw [hW5]; exact (HB.out.alloc s4 _).alloc (by simp; omega) _
        have KW5 : Hid (Blk W5 wA.heap.size #[.int .i64 0, .slice none 0 0, .slice none 0 0] 51) := by rw [hW5]; exact (Blk.new _ _ _).alloc _
        have KG5 : Hid (Blk W5 (wA.heap.size + 1) #[.slice none 0 0] 35) := by
          have := Blk.newE hW5
          simp only [World.size_alloc] at this
          exact this
        have z5 : W5.heap.size = wA.heap.size + 2 := by rw [hW5]; simp
        have hws : w.heap.size ≤ w4.heap.size := HS4.out.now.2.2.size
        go_cut [17, 22] (fun s17 s22 wd => s17 = .int .i64 E1 ∧ s22 = .bool B1 ∧ ∃ a1 c1 a2 c2, Hid (Blk wd wA.heap.size #[.int .i64 F1, .slice a1 nA c1, .slice a2 nO c2] 51) ∧ Hid (GrsIn (fun g => g < w.heap.size ∨ wA.heap.size + 2 ≤ g) wd (.slice a1 nA c1) L1) ∧ Hid (FrsIn (fun g => g < w.heap.size ∨ wA.heap.size + 2 ≤ g) wd (.slice a2 nO c2) O1) ∧ Hid (Blk wd (wA.heap.size + 1) #[.slice none 0 0] 35) ∧ Hid (Below w4.heap.size w4 wd))
        case first =>
          by_cases h0 : V = 0
          · have HR : Hid (∀ W : World, Below w.heap.size w W → Calls Try.prog 26 #[.agg #[.int .i64 first, .slice ga ln gc, .slice oa lo oc], .agg #[.int .i64 ft, .bool fk, .slice pa pn pc]] W fun e w' => ∃ va vc qa qc, e = .returned (.tuple #[.agg #[.int .i64 F1, .slice va nA vc, .slice qa nO qc], .bool B1, .int .i64 E1]) ∧ Hid (GrsIn (fun g => g < w.heap.size ∨ W.heap.size ≤ g) w' (.slice va nA vc) L1) ∧ Hid (FrsIn (fun g => g < w.heap.size ∨ W.heap.size ≤ g) w' (.slice qa nO qc) O1) ∧ Below W.heap.size W w') := HRADD.out h0
            obtain ⟨k0, k1, k2⟩ := (HS4.out _ HB5.out).1.three
            obtain ⟨j0, j1, j2⟩ := (HS4.out _ HB5.out).2.1.three
            have HBW : Hid (Below w.heap.size w W5) := (HS4.out _ HB5.out).2.2
            subst h0
            rw [← hW5]
            clear hW5
            go_wp2_with fail
            refine (HR.out _ HBW.out).mono ?_
            rintro e w6 ⟨a1, c1, a2, c2, rfl, G6, O6, b6⟩
            have K6 := KW5.out.below b6 KW5.out.lt
            have J6 := KG5.out.below b6 KG5.out.lt
            have B6 := HB5.out.trans (b6.mono HB5.out.size)
            have s6 := b6.size
            obtain ⟨y0, y1, y2⟩ := K6.three
            have f6 := K6.free
            have l6 := K6.lt
            obtain ⟨W7, hW7⟩ : ∃ W7, W7 = ((w6.setCell ⟨wA.heap.size, 0, none⟩ (.int .i64 F1)).setCell ⟨wA.heap.size, 1, none⟩ (.slice a1 nA c1)).setCell ⟨wA.heap.size, 2, none⟩ (.slice a2 nO c2) := ⟨_, rfl⟩
            have K7 : Hid (Blk W7 wA.heap.size #[.int .i64 F1, .slice a1 nA c1, .slice a2 nO c2] 51) := by
              rw [hW7]; exact ((K6.set 0 (.int .i64 F1)).set 1 (.slice a1 nA c1)).set 2 (.slice a2 nO c2)
            have hno : ∀ g, g ≠ wA.heap.size → W7.heap[g]? = w6.heap[g]? := fun g hg => by
              rw [hW7, Below.heap_setCell _ _ _ _ (by exact hg), Below.heap_setCell _ _ _ _ (by exact hg), Below.heap_setCell _ _ _ _ (by exact hg)]
            have hs7 : W7.heap.size = w6.heap.size := by rw [hW7]; simp
            have G7 : Hid (GrsIn (fun g => g < w.heap.size ∨ wA.heap.size + 2 ≤ g) W7 (.slice a1 nA c1) L1) := G6.out.to ⟨by omega, fun g _ hg => hno g (by omega)⟩ (fun g _ h => h.imp id (fun h => by omega))
            have O7 : Hid (FrsIn (fun g => g < w.heap.size ∨ wA.heap.size + 2 ≤ g) W7 (.slice a2 nO c2) O1) := O6.out.to ⟨by omega, fun g _ hg => hno g (by omega)⟩ (fun g _ h => h.imp id (fun h => by omega))
            have J7 : Hid (Blk W7 (wA.heap.size + 1) #[.slice none 0 0] 35) := (hno _ (by omega)).trans J6
            have B7 : Hid (Below w4.heap.size w4 W7) := by rw [hW7]; exact ((B6.setCell (by simpa using s4) _).setCell (by simpa using s4) _).setCell (by simpa using s4) _
            clear b6 K6 J6 B6 G6 O6 hno hs7 k0 k1 k2 j0 j1 j2
            go_wp2_with fail
            rw [← hW7]
            go_meet
            case rel => exact ⟨rfl, rfl, a1, c1, a2, c2, K7.out, G7.out, O7.out, J7.out, B7.out⟩
          · obtain ⟨e1, e2, e3, e4, e5, e6, e7⟩ := HVB.out h0
            have HE : Hid (E1 = V ∧ F1 = 0 ∧ L1 = [] ∧ O1 = [] ∧ B1 = false ∧ nA = 0 ∧ nO = 0) := ⟨e1, e2, e3, e4, e5, e6, e7⟩
            clear e1 e2 e3 e4 e5 e6 e7
            rw [← hW5]
            clear hW5
            go_wp2_with fail
            go_meet
            case rel =>
              obtain ⟨e1, e2, e3, e4, e5, e6, e7⟩ := HE.out
              refine ⟨by rw [e1], by rw [e5], none, 0, none, 0, ?_, ?_, ?_, KG5.out, HB5.out⟩
              · rw [e2, e6, e7]; exact KW5.out
              · rw [e3, e6]; exact GrsIn.nil _ _
              · rw [e4, e7]; exact FrsIn.nil _ _
        case rest =>
          obtain ⟨rfl, rfl, a1, c1, a2, c2, KW, GW, OW, KG, HBd⟩ := hcut
          obtain ⟨wd, hwd⟩ : ∃ x, x = wc := ⟨wc, rfl⟩
          subst hwd
          clear HRADD HVB KW5 KG5 HB5 hW5 z5 HB
          go_upto_if 75 with fail
          go_cut [18, 23] (fun s18 s23 we => s18 = .int .i64 E2 ∧ s23 = .int .i64 N2 ∧ Hid (Below wd.heap.size wd we))
          case first =>
            by_cases h0 : X = 0
            · obtain ⟨k0, k1, k2⟩ := (HS4.out _ HBd.out).1.three
              have HBW : Hid (Below w.heap.size w wd) := (HS4.out _ HBd.out).2.2
              by_cases hq0 : q = 0
              · have HR : Hid (∀ W : World, Below w.heap.size w W → Calls Try.prog 27 #[.agg #[.int .i64 first, .slice ga ln gc, .slice oa lo oc], .int .i64 t] W fun e w' => e = .returned (.tuple #[.int .i64 N2, .bool false]) ∧ Below W.heap.size W w') := fun W hW => by
                  have := HRS.out h0 W hW
                  rw [show decide (0 < q) = false from decide_eq_false (by omega)] at this
                  exact this
                have he := (HXB.out.2 h0).1 hq0
                clear hq0
                subst h0 he
                go_wp2_with fail
                refine (HR.out _ HBW.out).mono ?_
                rintro e w6 ⟨rfl, b6⟩
                go_wp2_with fail
                go_meet
                case rel => exact ⟨rfl, rfl, b6⟩
              · have HR : Hid (∀ W : World, Below w.heap.size w W → Calls Try.prog 27 #[.agg #[.int .i64 first, .slice ga ln gc, .slice oa lo oc], .int .i64 t] W fun e w' => e = .returned (.tuple #[.int .i64 N2, .bool true]) ∧ Below W.heap.size W w') := fun W hW => by
                  have := HRS.out h0 W hW
                  rw [show decide (0 < q) = true from decide_eq_true (by omega)] at this
                  exact this
                have he := (HXB.out.2 h0).2 hq0
                clear hq0
                subst h0 he
                go_wp2_with fail
                refine (HR.out _ HBW.out).mono ?_
                rintro e w6 ⟨rfl, b6⟩
                go_wp2_with fail
                go_meet
                case rel => exact ⟨rfl, rfl, b6⟩
            · have HE : Hid (E2 = X ∧ N2 = 0) := HXB.out.1 h0
              go_wp2_with fail
              go_meet
              case rel => exact ⟨by rw [HE.out.1], by rw [HE.out.2], Below.refl _ _⟩
          case rest =>
            obtain ⟨rfl, rfl, HBe⟩ := hcut
            obtain ⟨we, hwe⟩ : ∃ x, x = wc := ⟨wc, rfl⟩
            subst hwe
            have HBf : Hid (Below w4.heap.size w4 we) := HBd.out.trans (HBe.out.mono HBd.out.size)
            have KWe : Hid (Blk we wA.heap.size #[.int .i64 F1, .slice a1 nA c1, .slice a2 nO c2] 51) := KW.out.below HBe.out KW.out.lt
            have KGe : Hid (Blk we (wA.heap.size + 1) #[.slice none 0 0] 35) := KG.out.below HBe.out KG.out.lt
            have GWe : Hid (GrsIn (fun g => g < w.heap.size ∨ wA.heap.size + 2 ≤ g) we (.slice a1 nA c1) L1) := GW.out.below HBe.out
            have OWe : Hid (FrsIn (fun g => g < w.heap.size ∨ wA.heap.size + 2 ≤ g) we (.slice a2 nO c2) O1) := OW.out.below HBe.out
            have sge := KGe.out.lt
            clear KW KG GW OW HBe HBd HRS HXB
            go_upto_if 86 with fail
            go_cut [19] (fun s19 wf => s19 = .int .i64 E3 ∧ ∃ a3 c3, Hid (Blk wf (wA.heap.size + 1) #[.slice a3 nG c3] 35) ∧ Hid (FrsIn (fun _ => True) wf (.slice a3 nG c3) G3) ∧ Hid (Blk wf wA.heap.size #[.int .i64 F1, .slice a1 nA c1, .slice a2 nO c2] 51) ∧ Hid (GrsIn (fun _ => True) wf (.slice a1 nA c1) L1) ∧ Hid (FrsIn (fun _ => True) wf (.slice a2 nO c2) O1) ∧ Hid (Below w4.heap.size w4 wf))
            case first =>
              by_cases h0 : U = 0
              · obtain ⟨f0, f1, q6, hlo, hhi, hin⟩ := HUB.out.2 h0
                have HLO : Hid (n < first → E3 = 5 ∧ G3 = [] ∧ nG = 0) := hlo
                have HHI : Hid (first + q ≤ n → E3 = 5 ∧ G3 = [] ∧ nG = 0) := hhi
                have HIN : Hid (∀ d : Nat, n = first + d → d < q → E3 = 0 ∧ G3 = grAt A d) := hin
                have HAL := HALL.out h0 we (HS4.out _ HBf.out).2.2
                obtain ⟨k0, k1, k2⟩ := (HS4.out _ HBf.out).1.three
                clear hlo hhi hin HUB HALL
                subst h0
                go_wp2_with fail
                refine HAL.mono ?_
                rintro e w8 ⟨va8, vc8, rfl, GA, b8⟩
                have s8 := b8.size
                have HB8 : Hid (Below w4.heap.size w4 w8) := HBf.out.trans (b8.mono HBf.out.size)
                have KW8 := KWe.out.below b8 KWe.out.lt
                have KG8 := KGe.out.below b8 KGe.out.lt
                have GW8 : Hid (GrsIn (fun g => g < w.heap.size ∨ wA.heap.size + 2 ≤ g) w8 (.slice a1 nA c1) L1) := GWe.out.below b8
                have OW8 : Hid (FrsIn (fun g => g < w.heap.size ∨ wA.heap.size + 2 ≤ g) w8 (.slice a2 nO c2) O1) := OWe.out.below b8
                clear b8 k0 k1 k2 HAL
                obtain ⟨k0, k1, k2⟩ := (HS4.out _ HB8.out).1.three
                have HOUT : Hid (E3 = 5 ∧ G3 = [] ∧ nG = 0 → ∃ a3 c3, Hid (Blk w8 (wA.heap.size + 1) #[.slice a3 nG c3] 35) ∧ Hid (FrsIn (fun _ => True) w8 (.slice a3 nG c3) G3) ∧ Hid (Blk w8 wA.heap.size #[.int .i64 F1, .slice a1 nA c1, .slice a2 nO c2] 51) ∧ Hid (GrsIn (fun _ => True) w8 (.slice a1 nA c1) L1) ∧ Hid (FrsIn (fun _ => True) w8 (.slice a2 nO c2) O1) ∧ Hid (Below w4.heap.size w4 w8)) := fun h => by
                  obtain ⟨_, h2, h3⟩ := h
                  rw [h2, h3]
                  exact ⟨none, 0, KG8, FrsIn.nil _ _, KW8, GW8.out.mono (fun _ _ _ => trivial), OW8.out.mono (fun _ _ _ => trivial), HB8.out⟩
                by_cases hn1 : n < first
                · have HO := HLO.out hn1
                  have HO' : Hid (E3 = 5 ∧ G3 = [] ∧ nG = 0) := HO
                  clear HO KW8 KG8
                  go_wp2_with fail
                  go_meet
                  case rel => exact ⟨by rw [HO'.out.1], HOUT.out HO'.out⟩
                · by_cases hn2 : first + (q : Int) ≤ n
                  · have HO' : Hid (E3 = 5 ∧ G3 = [] ∧ nG = 0) := HHI.out hn2
                    clear KW8 KG8
                    go_wp2_with fail
                    go_meet
                    case rel => exact ⟨by rw [HO'.out.1], HOUT.out HO'.out⟩
                  · obtain ⟨d, hd⟩ : ∃ d : Nat, (d : Int) = n - first := ⟨(n - first).toNat, by omega⟩
                    have hnd : n = first + d := by omega
                    have hdq : d < q := by omega
                    have HE : Hid (E3 = 0 ∧ G3 = grAt A d) := HIN.out d hnd hdq
                    obtain ⟨ao', c', eu, _, _, hc⟩ := GA.out
                    rw [← HQ.out] at eu
                    injection eu with eu eu2 eu3
                    clear eu2
                    subst eu eu3
                    obtain ⟨b, off, e1, hb, _, sv, c0, hsv⟩ := hc d (by rw [← HQ.out]; exact hdq)
                    rw [show A[d]?.getD [] = G3 from HE.out.2.symm] at hsv
                    obtain ⟨sa, sc, es, _, _⟩ := hsv.len
                    rw [← HNG.out] at es
                    subst e1 es
                    have y0 := KG8.one
                    have g8 := KG8.free 0
                    have l8 := KG8.lt
                    obtain ⟨W9, hW9⟩ : ∃ W9, W9 = w8.setCell ⟨wA.heap.size + 1, 0, none⟩ (.slice sa nG sc) := ⟨_, rfl⟩
                    have hno : ∀ g, g ≠ wA.heap.size + 1 → W9.heap[g]? = w8.heap[g]? := fun g hg => by
                      rw [hW9, Below.heap_setCell _ _ _ _ (by exact hg)]
                    have hs9 : W9.heap.size = w8.heap.size := by rw [hW9]; simp
                    have KG9 : Hid (Blk W9 (wA.heap.size + 1) #[.slice sa nG sc] 35) := by rw [hW9]; exact KG8.set 0 _
                    have FG9 : Hid (FrsIn (fun _ => True) W9 (.slice sa nG sc) G3) := hsv.to ⟨by omega, fun g _ hg => hno g (by omega)⟩ (fun _ _ _ => trivial)
                    have KW9 : Hid (Blk W9 wA.heap.size #[.int .i64 F1, .slice a1 nA c1, .slice a2 nO c2] 51) := (hno _ (by omega)).trans KW8
                    have GW9 : Hid (GrsIn (fun _ => True) W9 (.slice a1 nA c1) L1) := GW8.out.to ⟨by omega, fun g _ hg => hno g (by omega)⟩ (fun _ _ _ => trivial)
                    have OW9 : Hid (FrsIn (fun _ => True) W9 (.slice a2 nO c2) O1) := OW8.out.to ⟨by omega, fun g _ hg => hno g (by omega)⟩ (fun _ _ _ => trivial)
                    have HB9 : Hid (Below w4.heap.size w4 W9) := by rw [hW9]; exact HB8.out.setCell (by simp; omega) _
                    have hdw : IntKind.i64.wrap (d : Int) = (d : Int) := by rw [IntKind.wrap_i64]; omega
                    have hdqi : (d : Int) < (q : Int) := by omega
                    have hnf : first + (d : Int) - first = (d : Int) := by omega
                    have hnl : ¬ first + (d : Int) < first := by omega
                    have hqd : ¬ first + (q : Int) ≤ first + (d : Int) := by omega
                    have HE0 : Hid (E3 = 0) := HE.out.1
                    clear hc hsv hno hs9 KW8 KG8 GW8 OW8 HB8 HOUT HLO HHI HIN HE hn1 hn2 hd hb GA
                    subst hnd
                    go_wp2_with fail
                    rw [← hW9]
                    go_meet
                    case rel => exact ⟨by rw [HE0.out], sa, sc, KG9.out, FG9.out, KW9.out, GW9.out, OW9.out, HB9.out⟩
              · have HE : Hid (E3 = U ∧ G3 = [] ∧ nG = 0) := HUB.out.1 h0
                go_wp2_with fail
                go_meet
                case rel =>
                  obtain ⟨h1, h2, h3⟩ := HE.out
                  refine ⟨by rw [h1], none, 0, ?_, ?_, KWe.out, GWe.out.mono (fun _ _ _ => trivial), OWe.out.mono (fun _ _ _ => trivial), HBf.out⟩
                  · rw [h3]; exact KGe.out
                  · rw [h2, h3]; exact FrsIn.nil _ _
            case rest =>
              obtain ⟨rfl, a3, c3, KG9, FG9, KW9, GW9, OW9, HB9⟩ := hcut
              clear KWe KGe GWe OWe HBf HUB HALL sge
              go_wp2_with fail
              refine (storeBegun_any _).mono ?_
              rintro e x1 ⟨rfl, bx⟩
              have HS10 := (HS4.out.step HB9.out).step bx
              have HA10 := (HA4.out.step HB9.out).step bx
              have HX10 := (HX4.out.step HB9.out).step bx
              have HW10 := ((KG9.out.stay.and FG9.out.stay).and (KW9.out.stay.and (GW9.out.stay.and OW9.out.stay))).step bx
              clear bx KG9 FG9 KW9 GW9 OW9 HB9 HS4 HA4 HX4
              obtain ⟨k0, k1, k2⟩ := HS10.now.1.three
              have HHS := HS10.hid
              have HHA := HA10.hid
              have HHX := HX10.hid
              have HHW := HW10.hid
              clear HS10 HA10 HX10 HW10
              go_wp2_with fail
              refine (HCK.out _ HHS.out.now.2.2).mono ?_
              rintro e x2 ⟨rfl, bx⟩
              have HHS := Stay.go HHS bx
              have HHA := Stay.go HHA bx
              have HHX := Stay.go HHX bx
              have HHW := Stay.go HHW bx
              clear bx k0 k1 k2
              obtain ⟨k0, k1, k2⟩ := HHA.out.now.1.three
              obtain ⟨j0, j1, j2⟩ := HHW.out.now.2.1.three
              go_wp2_with fail
              refine (storeIs_any E1 F1 F1 _ _ _ _ L1 L1 O1 O1 x2 HHA.out.now.2.1 HHA.out.now.2.2 HHW.out.now.2.2.1 HHW.out.now.2.2.2 (fun _ => ⟨rfl, rfl, rfl⟩) HFIN.out).mono ?_
              rintro e x3 ⟨rfl, bx⟩
              have HHS := Stay.go HHS bx
              have HHX := Stay.go HHX bx
              have HHW := Stay.go HHW bx
              clear bx k0 k1 k2 j0 j1 j2
              have k0 := HHX.out.now.1.one
              have j0 := HHW.out.now.1.1.one
              go_wp2_with fail
              refine (sameFrames_any _ _ _ _ _ HHX.out.now.2.frs HHW.out.now.1.2.frs (by rw [← HNG.out]; exact HG6.out)).mono ?_
              rw [show sameFs G3 G3 = true from decide_eq_true rfl]
              rintro e x4 ⟨rfl, bx⟩
              have HHS := Stay.go HHS bx
              clear bx
              go_wp2
              go_ret
              exact ⟨rfl, HHS.out.now.2.2⟩

end Go.Proofs.Ytgmnhbmjnllhhac
