/-
  Contracts of the document's AllOf, SeekOf.
-/
import Derived.Test.YtgmnhbmjnllhhacRefStore1
import Derived.Test.YtgmnhbmjnllhhacNestApp
import Derived.Test.YtgmnhbmjnllhhacAppAny
namespace Go.Proofs.Ytgmnhbmjnllhhac
open Go.RowKit

theorem groups_copyS {S : Nat → Prop} {w : World} {u : Value} {L : List (List Fr)} (hS : ∀ g, S g → g < w.heap.size) (hu : GrsIn S w u L) (hb : L.length ≤ 1000) :
    ∃ v' w', (Builtin.append_ #[38, 38] 38 #[.slice (some ⟨w.heap.size, 0, none⟩) 0 0, u]).run Try.prog (w.alloc (.cells #[] 35)) = .ok v' w' ∧ OwnGrs w.heap.size S w' v' L ∧ Below w.heap.size w w' := by
  obtain ⟨qs, q1, q2, q3⟩ := (hu.alloc (.cells #[] 35)).sl
  have h0 : OwnGrs w.heap.size S (w.alloc (.cells #[] 35)) (.slice (some ⟨w.heap.size, 0, none⟩) 0 0) [] := ⟨[], rfl, World.ownsRow_lit (base := w.heap.size) (e := 35) (size := 1) w #[] 0 (Nat.le_refl _) (by unfold maxLen; omega) rfl, fun _ hp => absurd hp List.not_mem_nil⟩
  obtain ⟨v', w', r, o, g, _⟩ := groups_app h0 q1 q2 q3 (fun g hg e => by have := hS g hg; simp [Value.ownBlock] at e; omega) (by simpa using hb) (by simp)
  exact ⟨v', w', r, by simpa using o, ((Below.refl _ w).alloc (Nat.le_refl _) _).grown g (by simp) (fun j hj => by simp [Value.ownBlock] at hj; omega)⟩
theorem groups_snocS {base : Nat} {S : Nat → Prop} {w : World} {v ov : Value} {L : List (List Fr)} {o : List Fr} (hS : ∀ g, S g → g < base) (hv : OwnGrs base S w v L) (ho : FrsIn S w ov o) (hb : L.length ≤ 999) (hbase : base ≤ w.heap.size) :
    ∃ v' w', (Builtin.append_ #[38, 38] 38 #[v, .slice (some ⟨w.heap.size, 0, none⟩) 1 1]).run Try.prog (w.alloc (.cells #[ov] 35)) = .ok v' w' ∧ OwnGrs base S w' v' (L ++ [o]) ∧ Below base w w' := by
  have hS' : ∀ g, S g → some g ≠ v.ownBlock := fun g hg e => by have := (hv.lt g e.symm).1; have := hS g hg; omega
  obtain ⟨v', w', r, o', g, _⟩ := groups_app (qs := [(o, ov)]) (hv.below ((Below.refl _ w).alloc (Nat.le_refl _) (.cells #[ov] 35))) rfl (Sl.new w #[ov] 35 1 1 1 rfl) (fun p hp => by simp at hp; subst hp; exact ho.alloc _) hS' (by simpa using hb) (by simp; omega)
  exact ⟨v', w', r, o', ((Below.refl base w).alloc hbase _).grown g (by simp; omega) (fun j hj => (hv.lt j hj).1)⟩

set_option maxHeartbeats 2000000 in
set_option maxRecDepth 100000 in
theorem allOf_in (S : Nat → Prop) (first : Int) (gv ov : Value) (L : List (List Fr)) (O : List Fr) (w : World) (hg : GrsIn S w gv L) (ho : FrsIn S w ov O) (hL : L.length ≤ 999) :
    Calls Try.prog 28 #[.agg #[.int .i64 first, gv, ov]] w fun e w' => ∃ v', e = .returned v' ∧ GrsIn (fun g => S g ∨ w.heap.size ≤ g) w' v' (allG L O) ∧ Below w.heap.size w w' := by
  obtain ⟨ga, gc, eg, _, _⟩ := hg.len
  obtain ⟨oa, oc, eo, _, _⟩ := ho.len
  obtain ⟨ln, hln⟩ : ∃ n, n = L.length := ⟨_, rfl⟩
  obtain ⟨lo, hlo⟩ : ∃ n, n = O.length := ⟨_, rfl⟩
  rw [← hln] at eg
  rw [← hlo] at eo
  obtain ⟨W0, hW0⟩ : ∃ W0, W0 = w.alloc (.cells #[.int .i64 first, gv, ov] 51) := ⟨_, rfl⟩
  have B0 : Below w.heap.size w W0 := by rw [hW0]; exact (Below.refl _ _).alloc (Nat.le_refl _) _
  have K0 : Blk W0 w.heap.size #[.int .i64 first, gv, ov] 51 := Blk.newE hW0
  have hg0 : GrsIn (fun g => S g ∧ g < W0.heap.size) W0 gv L := (hg.below B0).mono fun g h h' => ⟨h', h⟩
  have ho0 : FrsIn (fun g => S g ∧ g < W0.heap.size) W0 ov O := (ho.below B0).mono fun g h h' => ⟨h', h⟩
  obtain ⟨v3, w3, r3, o3, b3⟩ := groups_copyS (fun g h => h.2) hg0 (by omega)
  have ho3 := ho0.below b3
  have K3 : Hid (Blk w3 w.heap.size #[.int .i64 first, gv, ov] 51) := K0.below b3 K0.lt
  have B3 : Hid (Below w.heap.size w w3) := B0.trans (b3.mono B0.size)
  obtain ⟨v5, w5, r5, o5, b5⟩ := groups_snocS (fun g h => h.2) o3 ho3 hL b3.size
  have HR3 : Hid (GrsIn (fun g => S g ∨ w.heap.size ≤ g) w3 v3 L) := o3.grsIn (fun _ _ h => .inl h.1) (fun g h => .inr (Nat.le_trans B0.size (o3.lt g h).1))
  have HR5 : Hid (GrsIn (fun g => S g ∨ w.heap.size ≤ g) w5 v5 (L ++ [O])) := o5.grsIn (fun _ _ h => .inl h.1) (fun g h => .inr (Nat.le_trans B0.size (o5.lt g h).1))
  have B5 : Hid (Below w.heap.size w w5) := B3.out.trans (b5.mono B0.size)
  have HA : Hid (allG L O = if 0 < lo then L ++ [O] else L) := by show _ = _; rw [hlo]; rfl
  have r3' : (Builtin.append_ #[38, 38] 38 #[.slice (some ⟨w.heap.size + 1, 0, none⟩) 0 0, gv]).run Try.prog (W0.alloc (.cells #[] 35)) = .ok v3 w3 := by
    rw [show w.heap.size + 1 = W0.heap.size by rw [hW0]; simp]; exact r3
  subst hW0
  clear hg ho hg0 ho0 o3 o5 b3 b5 ho3 hL hln hlo K0 B0 r3
  subst eg eo
  obtain ⟨k0, k1, k2⟩ := K3.out.three
  by_cases hl : 0 < lo
  · have hli : (0 : Int) < (lo : Int) := by omega
    have HA2 : Hid (allG L O = L ++ [O]) := by show _ = _; rw [HA.out, if_pos hl]
    go_enter Try.func28, Try.ntmps28
    go_wp2_with (at_builtin; first | refine wpList_append_run rfl (.tmp 4) (.tmp 6) 38 38 rfl _ _ rfl rfl r3' ?_ | refine wpList_append_run rfl (.tmp 13) (.tmp 16) 38 38 rfl _ _ rfl rfl r5 ?_)
    go_ret
    exact ⟨v5, rfl, by rw [HA2.out]; exact HR5.out, B5.out⟩
  · have hli : ¬ (0 : Int) < (lo : Int) := by omega
    have HA2 : Hid (allG L O = L) := by show _ = _; rw [HA.out, if_neg hl]
    go_enter Try.func28, Try.ntmps28
    go_wp2_with (at_builtin; refine wpList_append_run rfl (.tmp 4) (.tmp 6) 38 38 rfl _ _ rfl rfl r3' ?_)
    go_ret
    exact ⟨v3, rfl, by rw [HA2.out]; exact HR3.out, B3.out⟩

theorem allOf_any (first : Int) (gv ov : Value) (L : List (List Fr)) (O : List Fr) (w : World) (hg : GrsIn (fun _ => True) w gv L) (ho : FrsIn (fun _ => True) w ov O) (hL : L.length ≤ 999) :
    Calls Try.prog 28 #[.agg #[.int .i64 first, gv, ov]] w fun e w' => ∃ v', e = .returned v' ∧ GrsIn (fun _ => True) w' v' (allG L O) ∧ Below w.heap.size w w' := by
  refine (allOf_in (fun _ => True) first gv ov L O w hg ho hL).mono ?_
  rintro e w' ⟨v', rfl, h1, h2⟩
  exact ⟨v', rfl, h1.mono (fun _ _ _ => trivial), h2⟩

theorem GrsIn.firstTime {S : Nat → Prop} {w : World} {ao : Option Addr} {n c k : Nat} {L : List (List Fr)} (h : GrsIn S w (.slice ao n c) L) (hk : k < L.length) (h0 : 0 < (grAt L k).length) :
    ∃ b off b2 off2 sn sc, ao = some ⟨b, off, none⟩ ∧ w.cell? ⟨b, off + k, none⟩ = some (.slice (some ⟨b2, off2, none⟩) sn sc) ∧ 0 < sn ∧ w.cell? ⟨b2, off2, none⟩ = some (.int .i64 (frAt (grAt L k) 0).time) := by
  obtain ⟨ao', c', e, _, _, hc⟩ := h
  injection e with e1 e2 e3
  subst e1
  obtain ⟨b, off, e4, _, _, sv, c0, hs⟩ := hc k hk
  obtain ⟨sa, sc, es, _, _⟩ := hs.len
  subst es
  obtain ⟨b2, off2, e5, d0, _⟩ := hs.first h0
  subst e5
  exact ⟨b, off, b2, off2, _, sc, e4, c0, h0, d0⟩

set_option maxHeartbeats 4000000 in
set_option maxRecDepth 100000 in
theorem seekOf_any (first : Int) (gv ov : Value) (L : List (List Fr)) (O : List Fr) (t : Int) (w : World) (hg : GrsIn (fun _ => True) w gv L) (ho : FrsIn (fun _ => True) w ov O) (hr : stchk first L O = 0) :
    Calls Try.prog 27 #[.agg #[.int .i64 first, gv, ov], .int .i64 t] w fun e w' => e = .returned (.tuple #[.int .i64 (if (allG L O).length = 0 then 0 else first + seekI (allG L O) t ((allG L O).length - 1)), .bool (decide (0 < (allG L O).length))]) ∧ Below w.heap.size w w' := by
  obtain ⟨h1, h2, h3, _⟩ := stchk_zero.1 hr
  obtain ⟨A, hA⟩ : ∃ A, A = allG L O := ⟨_, rfl⟩
  have hAl : A.length ≤ 6 := by rw [hA]; exact allG_len L O h3
  have HAR : Hid (∀ k, k < A.length → 0 < (grAt A k).length) := fun k hk => (gchk_first (by rw [hA]; exact allG_right hr _ (grAt_mem (by rw [← hA]; exact hk)))).1
  obtain ⟨q, hq⟩ : ∃ q, q = A.length := ⟨_, rfl⟩
  have HQ : Hid (q = A.length) := hq
  have HALL : Hid (∀ U, Below w.heap.size w U → Calls Try.prog 28 #[.agg #[.int .i64 first, gv, ov]] U fun e w' => ∃ a c, e = .returned (.slice a q c) ∧ Hid (GrsIn (fun _ => True) w' (.slice a q c) A) ∧ Below U.heap.size U w') := fun U hU => by
    refine (allOf_any first gv ov L O U (hg.below hU) (ho.below hU) (by omega)).mono ?_
    rintro e w' ⟨v', rfl, h4, h5⟩
    rw [← hA] at h4
    obtain ⟨a, c, e, _, _⟩ := h4.len
    rw [← hq] at e
    subst e
    exact ⟨a, c, rfl, h4, h5⟩
  obtain ⟨ga, gc, eg, _, _⟩ := hg.len
  obtain ⟨oa, oc, eo, _, _⟩ := ho.len
  obtain ⟨ln, hln⟩ : ∃ n, n = L.length := ⟨_, rfl⟩
  obtain ⟨lo, hlo⟩ : ∃ n, n = O.length := ⟨_, rfl⟩
  rw [← hln] at eg
  rw [← hlo] at eo
  rw [← hA, ← hq]
  rw [← hq] at hAl
  obtain ⟨RN, hRN⟩ : ∃ R : Int, R = if q = 0 then 0 else first + seekI A t (q - 1) := ⟨_, rfl⟩
  obtain ⟨RB, hRB⟩ : ∃ R : Bool, R = decide (0 < q) := ⟨_, rfl⟩
  have HRN : Hid (q = 0 → RN = 0 ∧ RB = false) := fun h => ⟨by rw [hRN, if_pos h], by rw [hRB, h]; rfl⟩
  have HRY : Hid (∀ i : Nat, ¬ q = 0 → seekI A t (q - 1) = i → RN = first + i ∧ RB = true) := fun i h h' => ⟨by rw [hRN, if_neg h, h'], by rw [hRB]; exact decide_eq_true (by omega)⟩
  rw [← hRN, ← hRB]
  clear hg ho hr h3 hA hq hln hlo hRN hRB
  subst eg eo
  go_enter Try.func27, Try.ntmps27
  go_wp2_with fail
  obtain ⟨W0, hW0⟩ : ∃ W0, W0 = w.alloc (.cells #[.int .i64 first, .slice ga ln gc, .slice oa lo oc] 51) := ⟨_, rfl⟩
  have HS0 := (((Blk.newE hW0).stay).and ((below_stay0 w).allocE hW0).out).hid
  rw [← hW0]
  clear hW0
  refine (HALL.out _ HS0.out.now.2).mono ?_
  rintro e w1 ⟨va, vc, rfl, GA, b1⟩
  have HS1 := Stay.go HS0 b1
  clear b1 HS0
  obtain ⟨k0, k1, k2⟩ := HS1.out.now.1.three
  by_cases hq0 : q = 0
  · obtain ⟨rfl, rfl⟩ := HRN.out hq0
    subst hq0
    go_wp2_with fail
    go_loopw [7] (fun s wr => s = .int .i64 (-1) ∧ w1 = wr) (fun _ _ => 0)
    case atStart => exact ⟨by simp, rfl⟩
    case round =>
      obtain ⟨rfl, rfl⟩ := hrel
      go_wp2_with fail
      exact bodyPost_ret (v := .tuple #[.int .i64 0, .bool false]) (by simp [results, Try.results27, go_sem]) rfl ⟨rfl, HS1.out.now.2⟩
  obtain ⟨q1, hq1⟩ : ∃ q1, q = q1 + 1 := ⟨q - 1, by omega⟩
  have HQ1 : Hid (q1 + 1 = A.length) := by show _ = _; rw [← hq1]; exact HQ.out
  have HRES : Hid (∀ i : Nat, seekI A t q1 = i → RN = first + i ∧ RB = true) := fun i hi => HRY.out i hq0 (by rw [show q - 1 = q1 by omega, hi])
  have hqi : (q : Int) - 1 = (q1 : Int) := by omega
  clear hq1
  go_wp2_with fail
  go_loopw [7] (fun s wr => ∃ i : Nat, i ≤ q1 ∧ s = .int .i64 i ∧ Hid (seekI A t q1 = seekI A t i) ∧ w1 = wr) (fun s _ => (intOf s).toNat)
  case atStart => exact ⟨q1, Nat.le_refl _, by go_num, (show seekI A t q1 = seekI A t q1 from rfl), rfl⟩
  case round =>
    obtain ⟨i, hi, rfl, HI, rfl⟩ := hrel
    obtain ⟨b, off, b2, off2, sn, sc, e1, c0, c1, c2⟩ := GA.out.firstTime (k := i) (by rw [← HQ1.out]; omega) (HAR.out i (by rw [← HQ1.out]; omega))
    subst e1
    obtain ⟨T, hT⟩ : ∃ T, T = (frAt (grAt A i) 0).time := ⟨_, rfl⟩
    have HT : Hid (T = (frAt (grAt A i) 0).time) := hT
    rw [← hT] at c2
    clear hT
    have hiq : (i : Int) < (q : Int) := by omega
    have c1i : (0 : Int) < (sn : Int) := by omega
    by_cases hle : T ≤ t
    · have HR : Hid (seekI A t i = i) := by
        show _ = _
        cases i with
        | zero => rfl
        | succ i => exact seekI_hit rfl (by rw [← HT.out]; exact hle)
      obtain ⟨rfl, rfl⟩ := HRES.out i (HI.out.trans HR.out)
      go_wp2_with fail
      go_loopw [8] (fun s wr => s = .int .i64 i ∧ w1 = wr) (fun _ _ => 0)
      case atStart => exact ⟨rfl, rfl⟩
      case round =>
        obtain ⟨rfl, rfl⟩ := hrel
        go_wp2_with fail
        exact bodyPost_ret (v := .tuple #[.int .i64 (first + i), .bool true]) (by simp [results, Try.results27, go_sem]) rfl ⟨rfl, HS1.out.now.2⟩
    · by_cases hi0 : i = 0
      · have HF : Hid (RN = first + ((0 : Nat) : Int) ∧ RB = true) := HRES.out 0 (by rw [HI.out, hi0]; rfl)
        have HI0 : Hid (i = 0) := hi0
        have hz : ((i : Int) == 0) = true := by simpa using hi0
        have hneg : ¬ (0 : Int) ≤ (i : Int) - 1 := by omega
        clear hi0
        go_wp2_with fail
        go_loopw [8] (fun s wr => (s = .int .i64 i ∨ s = .int .i64 ((i : Int) - 1)) ∧ w1 = wr) (fun s _ => (intOf s + 1).toNat)
        case atStart => exact ⟨.inl (by simp), rfl⟩
        case round =>
          obtain ⟨h, rfl⟩ := hrel
          rcases h with rfl | rfl
          · go_wp2_with fail
            go_roundw
            case rel => exact ⟨.inr (by simp), by first | rfl | trivial⟩
            case measure => simp [intOf]
          · go_wp2_with fail
            exact bodyPost_ret (v := .tuple #[.int .i64 first, .bool true]) (by simp [results, Try.results27, go_sem]) rfl ⟨by rw [HF.out.1, HF.out.2]; simp, HS1.out.now.2⟩
      · obtain ⟨i1, hi1⟩ : ∃ i1, i = i1 + 1 := ⟨i - 1, by omega⟩
        have HR : Hid (seekI A t q1 = seekI A t i1) := by show _ = _; rw [HI.out]; exact seekI_miss hi1 (by rw [← HT.out]; exact hle)
        have hz : ((i : Int) == 0) = false := by simpa using hi0
        have hii : (i : Int) - 1 = (i1 : Int) := by omega
        have hl1 : i1 < i := by omega
        clear hi0 hi1
        go_wp2_with fail
        go_roundw
        case rel => exact ⟨i1, by omega, by go_num, HR.out, by first | rfl | trivial⟩
        case measure => simp [intOf]; omega

end Go.Proofs.Ytgmnhbmjnllhhac
