/-
  The walk of switchbacklaw.StoreSeeks.
-/
import Derived.Test.YtgmnhbmjnllhhadStoreMath
import Derived.Test.YtgmnhbmjnllhhadStoreBegun
import Derived.Test.YtgmnhbmjnllhhadStay
import Derived.Deep.DeepCutAuto
namespace Go.Proofs.Ytgmnhbmjnllhhad
open Go.RowKit

theorem gchk_first {l : List Fr} (h : gchk l = 0) : 0 < l.length ∧ l.length ≤ 6 ∧ (frAt l 0).key = true := by
  obtain ⟨h1, h2, h3⟩ := gchk_zero.1 h
  refine ⟨h1, h2, ?_⟩
  have := (h3 0 h1).2
  simpa [inPl] using this
theorem FrsIn.first {S : Nat → Prop} {w : World} {ao : Option Addr} {n c : Nat} {l : List Fr} (h : FrsIn S w (.slice ao n c) l) (h0 : 0 < l.length) : ∃ b off, ao = some ⟨b, off, none⟩ ∧ w.cell? ⟨b, off, none⟩ = some (.int .i64 (frAt l 0).time) ∧ w.cell? ⟨b, off + 1, none⟩ = some (.bool (frAt l 0).key) := by
  obtain ⟨ao', c', e, _, _, hc⟩ := h
  injection e with e1 _ _
  subst e1
  obtain ⟨b, off, e, _, _, pv, c0, c1, _⟩ := hc 0 h0
  exact ⟨b, off, e, by simpa using c0, by simpa using c1⟩
theorem grAt_mem {L : List (List Fr)} {k : Nat} (h : k < L.length) : grAt L k ∈ L := by
  unfold grAt; rw [List.getElem?_eq_getElem h]; exact List.getElem_mem _

set_option maxHeartbeats 8000000 in
set_option maxRecDepth 100000 in
theorem storeSeeks_any (first : Int) (gv ov : Value) (L : List (List Fr)) (O : List Fr) (t : Int) (w : World) (hg : GrsIn (fun _ => True) w gv L) (ho : FrsIn (fun _ => True) w ov O) :
    Calls Try.prog 3 #[.agg #[.int .i64 first, gv, ov], .int .i64 t] w fun e w' => e = .returned (.bool true) ∧ Below w.heap.size w w' := by
  obtain ⟨ga, gc, eg, _, _⟩ := hg.len
  obtain ⟨oa, oc, eo, _, _⟩ := ho.len
  obtain ⟨ln, hln⟩ : ∃ n, n = L.length := ⟨_, rfl⟩
  obtain ⟨lo, hlo⟩ : ∃ n, n = O.length := ⟨_, rfl⟩
  rw [← hln] at eg
  rw [← hlo] at eo
  obtain ⟨E, hE⟩ : ∃ E, E = seekE first L O t := ⟨_, rfl⟩
  obtain ⟨N, hN⟩ : ∃ N, N = seekN first L O t := ⟨_, rfl⟩
  obtain ⟨A, hA⟩ : ∃ A, A = allG L O := ⟨_, rfl⟩
  have HSK : Hid (∀ U : World, GrsIn (fun _ => True) U gv L → FrsIn (fun _ => True) U ov O → Calls Try.prog 9 #[.agg #[.int .i64 first, gv, ov], .int .i64 t] U fun e w' => e = .returned (.tuple #[.int .i64 N, .int .i64 E]) ∧ Below U.heap.size U w') := fun U h1 h2 => by
    rw [hE, hN]; exact storeSeek_any first gv ov L O t U h1 h2
  have HGET : Hid (∀ (i : Int) (U : World), i ≤ 1000000 → GrsIn (fun _ => True) U gv L → FrsIn (fun _ => True) U ov O → Calls Try.prog 11 #[.agg #[.int .i64 first, gv, ov], .int .i64 i] U fun e w' => ∃ a c, e = .returned (.tuple #[.agg #[.slice a (getG first L O i).length c], .int .i64 (getE first L O i)]) ∧ FrsIn (fun _ => True) w' (.slice a (getG first L O i).length c) (getG first L O i) ∧ Below U.heap.size U w') := fun i U hi h1 h2 => storeGet_any first gv ov L O i U h1 h2 (by omega)
  have HBAD : Hid (¬ E = 0 → N = 0) := fun h => by rw [hN]; exact if_neg (by rw [← hE]; exact h)
  have HGOOD : Hid (E = 0 → 0 ≤ first ∧ first ≤ 100000 ∧ ln ≤ 5 ∧ A.length ≤ 6 ∧ ∃ K : Nat, K < A.length ∧ N = first + K ∧ (∀ j, K < j → j < A.length → t < (frAt (grAt A j) 0).time) ∧ (t < (frAt (grAt A K) 0).time → K = 0) ∧ (∀ (d : Nat), d < A.length → getE first L O (first + d) = 0 ∧ getG first L O (first + d) = grAt A d ∧ gchk (grAt A d) = 0) ∧ (∀ (d : Nat), A.length ≤ d → getE first L O (first + d) = 5)) := fun h => by
    rw [hE] at h
    obtain ⟨s1, s2, s3, s4, s5⟩ := seekE_zero h
    obtain ⟨t1, t2, t3, _⟩ := stchk_zero.1 s1
    have hK := seekI_le A t (A.length - 1)
    rw [← hA] at s4
    rw [← hA, ← hN] at s5
    have sp := seekI_spec A t (A.length - 1)
    refine ⟨t1, t2, by omega, by rw [hA]; exact allG_len L O t3, seekI A t (A.length - 1), by omega, s5, fun j h1 h2 => sp.1 j h1 (by omega), sp.2, fun d hd => ?_, fun d hd => ?_⟩
    · obtain ⟨u1, u2⟩ := getE_in s1 (n := first + d) (d := d) rfl (by rw [← hA]; exact hd)
      rw [← hA] at u2
      exact ⟨u1, u2, by rw [hA]; exact allG_right s1 _ (grAt_mem (by rw [← hA]; exact hd))⟩
    · exact (getE_out s1 (.inr (by rw [← hA]; omega))).1
  have HS : Hid (Stay w (fun U => GrsIn (fun _ => True) U gv L ∧ FrsIn (fun _ => True) U ov O ∧ Below w.heap.size w U)) := hg.stay.and (ho.stay.and (below_stay0 w))
  clear hg ho hE hN hA hln hlo
  subst eg eo
  go_enter Try.func3, Try.ntmps3
  go_wp2_with fail
  obtain ⟨W0, hW0⟩ : ∃ W0, W0 = w.alloc (.cells #[.int .i64 first, .slice ga ln gc, .slice oa lo oc] 27) := ⟨_, rfl⟩
  have HS0 := (((Blk.newE hW0).stay).and (HS.out.allocE hW0).out).hid
  rw [← hW0]
  clear hW0 HS
  refine (HSK.out _ HS0.out.now.2.1 HS0.out.now.2.2.1).mono ?_
  rintro e w1 ⟨rfl, b1⟩
  have HS1 := Stay.go HS0 b1
  clear b1 HS0 HSK
  go_wp2_with fail
  refine (storeBegun_any _).mono ?_
  rintro e w2 ⟨rfl, b2⟩
  have HS2 := Stay.go HS1 b2
  clear b2 HS1
  obtain ⟨j0, j1, j2⟩ := HS2.out.now.1.three
  by_cases hE : E = 0
  case neg =>
    have hN := HBAD.out hE
    subst hN
    go_wp2
    go_ret
    exact ⟨rfl, HS2.out.now.2.2.2⟩
  obtain ⟨hf0, hf1, hl5, hA6, K, hK, hN, hlate, hzero, hget, hnone⟩ := HGOOD.out hE
  have HLATE : Hid (∀ j, K < j → j < A.length → t < (frAt (grAt A j) 0).time) := hlate
  have HZERO : Hid (t < (frAt (grAt A K) 0).time → K = 0) := hzero
  have HIN : Hid (∀ (d : Nat), d < A.length → getE first L O (first + d) = 0 ∧ getG first L O (first + d) = grAt A d ∧ gchk (grAt A d) = 0) := hget
  have HOUT : Hid (∀ (d : Nat), A.length ≤ d → getE first L O (first + d) = 5) := hnone
  obtain ⟨q, hq⟩ : ∃ q, q = A.length := ⟨_, rfl⟩
  have HQ : Hid (q = A.length) := hq
  rw [← hq] at hK hA6
  clear hlate hzero hget hnone HGOOD HBAD hq
  have hGE := HIN.out K (by rw [← HQ.out]; exact hK)
  obtain ⟨G, hG⟩ : ∃ G, G = grAt A K := ⟨_, rfl⟩
  obtain ⟨nG, hnG⟩ : ∃ n, n = G.length := ⟨_, rfl⟩
  have hg0 := gchk_first (l := G) (by rw [hG]; exact hGE.2.2)
  subst hN
  have HC := HGET.out (first + K) w2 (by omega) HS2.out.now.2.1 HS2.out.now.2.2.1
  rw [hGE.1, hGE.2.1, ← hG, ← hnG] at HC
  obtain ⟨T0, hT0⟩ : ∃ T, T = (frAt G 0).time := ⟨_, rfl⟩
  obtain ⟨ea, hea⟩ : ∃ b : Bool, b = decide (T0 ≤ t) := ⟨_, rfl⟩
  have HFIRST : Hid (∀ (U : World) (a : Option Addr) (c : Nat), FrsIn (fun _ => True) U (.slice a nG c) G → ∃ b off, a = some ⟨b, off, none⟩ ∧ U.cell? ⟨b, off, none⟩ = some (.int .i64 T0) ∧ U.cell? ⟨b, off + 1, none⟩ = some (.bool true)) := fun U a c h => by
    have := h.first hg0.1
    rw [hg0.2.2, ← hT0] at this
    exact this
  have HEA : Hid ((ea = true → True) ∧ (ea = false → K = 0 ∧ t < T0)) := ⟨fun _ => trivial, fun h => by
    rw [hea, decide_eq_false_iff_not] at h
    exact ⟨HZERO.out (by rw [← hG, ← hT0]; omega), by omega⟩⟩
  have HT0 : Hid (T0 = (frAt (grAt A K) 0).time) := by show _ = _; rw [hT0, hG]
  have HEQ : Hid (ea = decide (T0 ≤ t)) := hea
  have hnG0 : 0 < nG := by rw [hnG]; exact hg0.1
  have hnG1 : (0 : Int) < (nG : Int) := by omega
  have hnz : ((nG : Int) == 0) = false := by simp; omega
  clear hGE hG hnG hg0 HZERO hT0 hea
  subst hE
  go_wp2_with fail
  refine HC.mono ?_
  rintro e w3 ⟨xa, xc, rfl, F3, b3⟩
  obtain ⟨W3, hW3⟩ : ∃ W3, W3 = w3.alloc (.cells #[.slice xa nG xc] 25) := ⟨_, rfl⟩
  have HS3 := (HS2.out.step b3).allocE hW3
  have X3 := (Blk.newE hW3)
  have F4 := F3.allocE hW3
  clear HC F3 b3 HS2 j0 j1 j2
  obtain ⟨j0, j1, j2⟩ := HS3.out.now.1.three
  have x0 := X3.one
  obtain ⟨b, off, e1, c0, c1⟩ := HFIRST.out _ _ _ F4
  subst e1
  subst hW3
  clear F4
  go_wp2_with fail
  rw [show decide (T0 ≤ t) = ea from HEQ.out.symm]
  go_loopw [9] (fun i wr => ∃ k : Nat, k ≤ ln + 1 ∧ i = .int .i64 (first + k) ∧ Hid (Stay wr (fun U => Blk U w.heap.size #[.int .i64 first, .slice ga ln gc, .slice oa lo oc] 27 ∧ GrsIn (fun _ => True) U (.slice ga ln gc) L ∧ FrsIn (fun _ => True) U (.slice oa lo oc) O ∧ Below w.heap.size w U)))
    (fun i _ => ln + 1 - (intOf i - first).toNat)
  case atStart => exact ⟨0, Nat.zero_le _, by simp, HS3.out⟩
  case round =>
    obtain ⟨k, hk, rfl, HS6⟩ := hrel
    clear HS3 j0 j1 j2 c0 c1 x0
    obtain ⟨j0, j1, j2⟩ := HS6.out.now.1.three
    by_cases hlt : k < ln + 1
    · have hle : first + (k : Int) ≤ first + (ln : Int) := by omega
      by_cases hkq : k < q
      · obtain ⟨gE, gG, gC⟩ := HIN.out k (by rw [← HQ.out]; exact hkq)
        obtain ⟨X, hX⟩ : ∃ X, X = grAt A k := ⟨_, rfl⟩
        obtain ⟨nX, hnX⟩ : ∃ n, n = X.length := ⟨_, rfl⟩
        have hx0 := gchk_first (l := X) (by rw [hX]; exact gC)
        have HC := HGET.out (first + k) wr (by omega) HS6.out.now.2.1 HS6.out.now.2.2.1
        rw [gE, gG, ← hX, ← hnX] at HC
        obtain ⟨TX, hTX⟩ : ∃ T, T = (frAt X 0).time := ⟨_, rfl⟩
        have HF : Hid (∀ (U : World) (a : Option Addr) (c : Nat), FrsIn (fun _ => True) U (.slice a nX c) X → ∃ b off, a = some ⟨b, off, none⟩ ∧ U.cell? ⟨b, off, none⟩ = some (.int .i64 TX)) := fun U a c h => by
          obtain ⟨b, off, h1, h2, _⟩ := h.first hx0.1
          rw [← hTX] at h2
          exact ⟨b, off, h1, h2⟩
        have HTX : Hid ((K < k → t < TX) ∧ (k = K → TX = T0)) := ⟨fun h => by rw [hTX, hX]; exact HLATE.out k h (by rw [← HQ.out]; exact hkq), fun h => by rw [hTX, hX, h, HT0.out]⟩
        have hnX0 : 0 < nX := by rw [hnX]; exact hx0.1
        have hnX1 : (0 : Int) < (nX : Int) := by omega
        have hnz : ((nX : Int) == 0) = false := by simp; omega
        clear gE gG gC hX hnX hx0 hTX
        go_wp2_with fail
        refine HC.mono ?_
        rintro e w7 ⟨ya, yc, rfl, F7, b7⟩
        obtain ⟨W7, hW7⟩ : ∃ W7, W7 = w7.alloc (.cells #[.slice ya nX yc] 25) := ⟨_, rfl⟩
        have HS7 := (HS6.out.step b7).allocE hW7
        have F8 := F7.allocE hW7
        have X7 := Blk.newE hW7
        clear HC F7 b7 HS6 j0 j1 j2
        obtain ⟨j0, j1, j2⟩ := HS7.out.now.1.three
        have x0 := X7.one
        obtain ⟨b, off, e1, c0⟩ := HF.out _ _ _ F8
        subst e1 hW7
        clear F8 X7
        by_cases hT : TX ≤ t
        · have hkK : ¬ first + (K : Int) < first + (k : Int) := fun h => by have := HTX.out.1 (by omega); omega
          have he : ea = true := by
            by_cases hh : ea = true
            · exact hh
            · obtain ⟨h1, h2⟩ := HEA.out.2 (by simpa using hh)
              have := HTX.out.2 (by omega)
              omega
          subst he
          go_wp2_with fail
          go_roundw
          case rel => exact ⟨k + 1, by omega, by go_num, HS7.out⟩
          case measure => simp [intOf]; omega
        · cases ea
          · obtain ⟨h1, h2⟩ := HEA.out.2 rfl
            have hkK : ¬ first + (k : Int) < first + (K : Int) := by omega
            clear h1 h2
            go_wp2_with fail
            go_roundw
            case rel => exact ⟨k + 1, by omega, by go_num, HS7.out⟩
            case measure => simp [intOf]; omega
          · go_wp2_with fail
            go_roundw
            case rel => exact ⟨k + 1, by omega, by go_num, HS7.out⟩
            case measure => simp [intOf]; omega
      · have gE := HOUT.out k (by rw [← HQ.out]; omega)
        have HC := HGET.out (first + k) wr (by omega) HS6.out.now.2.1 HS6.out.now.2.2.1
        rw [gE] at HC
        obtain ⟨nX, hnX⟩ : ∃ n, n = (getG first L O (first + k)).length := ⟨_, rfl⟩
        rw [← hnX] at HC
        clear gE hnX
        go_wp2_with fail
        refine HC.mono ?_
        rintro e w7 ⟨ya, yc, rfl, _, b7⟩
        have HS7 := ((HS6.out.step b7).alloc (.cells #[.slice ya nX yc] 25)).hid
        clear HC b7 HS6 j0 j1 j2
        go_wp2_with fail
        go_roundw
        case rel => exact ⟨k + 1, by omega, by go_num, HS7.out⟩
        case measure => simp [intOf]; omega
    · have hkl : k = ln + 1 := by omega
      have hle : ¬ first + (k : Int) ≤ first + (ln : Int) := by omega
      go_wp2
      go_ret
      exact ⟨rfl, HS6.out.now.2.2.2⟩

end Go.Proofs.Ytgmnhbmjnllhhad
