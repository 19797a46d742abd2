/-
  Contracts of the document's IsFull, CheckStore, Trimmed.
-/
import Derived.Test.YtgmnhbmjnllhhacStoreFirst
import Derived.Test.YtgmnhbmjnllhhacRefGroup
import Derived.Test.YtgmnhbmjnllhhacRefBetween
import Derived.Test.YtgmnhbmjnllhhacStay
namespace Go.Proofs.Ytgmnhbmjnllhhac
open Go.RowKit

theorem gsize_right {g : List Fr} (h : gchk g = 0) : gsize g = szG g := by unfold gsize; rw [if_pos h]

set_option maxHeartbeats 2000000 in
set_option maxRecDepth 100000 in
theorem isFull_any (S : Nat → Prop) (v : Value) (L : List (List Fr)) (w : World) (hv : GrsIn S w v L) (hR : ∀ g ∈ L, gchk g = 0) (hL : L.length ≤ 1000) :
    Calls Try.prog 47 #[v] w fun e w' => e = .returned (.bool (fullB L)) ∧ Below w.heap.size w w' := by
  obtain ⟨ao, c, rfl, _, _, hc⟩ := hv
  obtain ⟨n, hn⟩ : ∃ n, n = L.length := ⟨_, rfl⟩
  have HN : Hid (n = L.length) := hn
  have HC : Hid (∀ k, k < L.length → ∃ b off, ao = some ⟨b, off, none⟩ ∧ b < w.heap.size ∧ S b ∧ ∃ sv, w.cell? ⟨b, off + k, none⟩ = some sv ∧ FrsIn S w sv (L[k]?.getD [])) := hc
  have HR : Hid (∀ g ∈ L, gchk g = 0) := hR
  obtain ⟨FB, hFB⟩ : ∃ b, b = fullB L := ⟨_, rfl⟩
  have HFB : Hid (∀ y, y = sumG L → FB = (decide (5 < n) || (decide (1 < n) && decide (100 < y)))) := fun y hy => by rw [hFB, hy, hn]; rfl
  rw [← hn, ← hFB]
  have hn1 : n ≤ 1000 := by omega
  clear hn hc hR hL hFB
  go_enter Try.func47, Try.ntmps47
  go_wp2
  go_loopw [3, 4] (fun s i wr => ∃ (k y : Nat), k ≤ n ∧ i = .int .i64 k ∧ s = .int .i64 y ∧ Hid (y = sumG (L.take k)) ∧ Hid (y ≤ k * 192) ∧ Hid (Below w.heap.size w wr))
    (fun _ i _ => n - (intOf i).toNat)
  case atStart => exact ⟨0, 0, Nat.zero_le _, rfl, rfl, (show 0 = sumG (L.take 0) from rfl), (show 0 ≤ _ from Nat.zero_le _), Below.refl _ _⟩
  case round =>
    obtain ⟨k, y, hk, rfl, rfl, HY, HYB, HB⟩ := hrel
    by_cases hlt : k < n
    · obtain ⟨b, off, rfl, hb, _, sv, c0, hs⟩ := HC.out k (by rw [← HN.out]; exact hlt)
      have c1 := (HB.out.cell (p := ⟨b, off + k, none⟩) hb).trans c0
      obtain ⟨x, hx⟩ : ∃ x, x = L[k]?.getD [] := ⟨_, rfl⟩
      rw [← hx] at hs
      have hgx : gchk x = 0 := HR.out x (by rw [hx]; exact grAt_mem (by rw [← HN.out]; exact hlt))
      obtain ⟨z, hz⟩ : ∃ z, z = szG x := ⟨_, rfl⟩
      have hz2 : z ≤ 192 := by rw [hz, ← gsize_right hgx]; exact gsize_le x
      have HZ : Hid (y + z = sumG (L.take (k + 1))) := by
        show _ = _
        rw [sumG_take L k (by rw [← HN.out]; exact hlt), ← HY.out, show grAt L k = x from hx.symm, gsize_right hgx, hz]
      obtain ⟨a1, a2, rfl, _, _⟩ := hs.len
      have HCF : Hid (Calls Try.prog 15 #[.agg #[.slice a1 x.length a2]] wr fun e w' => e = .returned (.int .i64 z) ∧ Below wr.heap.size wr w') := by
        show Calls _ _ _ _ _
        rw [hz]; exact sizeOf_any _ _ x wr (hs.below HB.out) hgx
      have hyb := HYB.out
      have hlti : (k : Int) < (n : Int) := by omega
      clear hx hgx hz hs c0
      go_wp2_with fail
      refine HCF.out.mono ?_
      rintro e w2 ⟨rfl, b2⟩
      have B2 : Hid (Below w.heap.size w w2) := HB.out.trans (b2.mono HB.out.size)
      clear b2 HB c1
      go_wp2_with fail
      go_roundw
      case rel => exact ⟨k + 1, y + z, by omega, by go_num, by go_num, HZ.out, (show y + z ≤ _ by omega), B2.out⟩
      case measure => simp [intOf]; omega
    · have hkl : k = n := by omega
      subst hkl
      have hfb := HFB.out y (by rw [HY.out, HN.out, List.take_length])
      have HH : Hid (FB = (decide (5 < k) || (decide (1 < k) && decide (100 < y)))) := hfb
      have BW : Hid (Below w.heap.size w wr) := HB.out
      clear hfb HFB HB HY
      by_cases h5 : 5 < k
      · have hr : FB = true := by rw [HH.out, decide_eq_true h5]; rfl
        have h5i : (5 : Int) < (k : Int) := by omega
        subst hr
        go_wp2
        go_ret
        exact ⟨rfl, BW.out⟩
      · by_cases h1 : 1 < k
        · have hr : FB = decide (100 < y) := by rw [HH.out, decide_eq_false h5, decide_eq_true h1]; rfl
          subst hr
          have h5i : ¬ (5 : Int) < (k : Int) := by omega
          have h1i : (1 : Int) < (k : Int) := by omega
          by_cases hy : 100 < y
          · have hyi : (100 : Int) < (y : Int) := by omega
            go_wp2
            go_ret
            exact ⟨by simp, BW.out⟩
          · have hyi : ¬ (100 : Int) < (y : Int) := by omega
            go_wp2
            go_ret
            exact ⟨by simp, BW.out⟩
        · have hr : FB = false := by rw [HH.out, decide_eq_false h5, decide_eq_false h1]; rfl
          subst hr
          have h5i : ¬ (5 : Int) < (k : Int) := by omega
          have h1i : ¬ (1 : Int) < (k : Int) := by omega
          go_wp2
          go_ret
          exact ⟨rfl, BW.out⟩

/-- what Trimmed must say -/
def TrimsWell (S : Nat → Prop) (L : List (List Fr)) : Prop := ∀ (first : Int) (v : Value) (w : World), GrsIn S w v L → (∀ g ∈ L, gchk g = 0) → L.length ≤ 1000 → -1000000000 ≤ first → first + L.length ≤ 1000000000 →
    Calls Try.prog 48 #[.int .i64 first, v] w fun e w' => ∃ v', e = .returned (.tuple #[.int .i64 (first + trimD L), v']) ∧ GrsIn S w' v' (L.drop (trimD L)) ∧ Below w.heap.size w w'

set_option maxHeartbeats 2000000 in
set_option maxRecDepth 100000 in
theorem trimmed_no (S : Nat → Prop) (L : List (List Fr)) (hb : fullB L = false) : TrimsWell S L := by
  intro first v w hv hR hL hf0 hf1
  have HF : Hid (Calls Try.prog 47 #[v] w fun e w' => e = .returned (.bool false) ∧ Below w.heap.size w w') := by
    have := isFull_any S v L w hv hR hL
    rw [hb] at this
    exact this
  have HV : Hid (Stay w (fun U => GrsIn S U v L)) := hv.stay
  have HT : Hid (trimD L = 0) := trimD_no hb
  obtain ⟨n, hn⟩ : ∃ n, n = L.length := ⟨_, rfl⟩
  obtain ⟨ao, c, ev, _⟩ := hv
  rw [← hn] at ev
  subst ev
  clear hb hR hL hf1 hn
  go_enter Try.func48, Try.ntmps48
  go_wp2_with fail
  refine HF.out.mono ?_
  rintro e w1 ⟨rfl, b1⟩
  go_wp2_with fail
  exact bodyPost_ret (v := .tuple #[.int .i64 first, .slice ao n c]) (by simp [results, Try.results48, go_sem]) rfl ⟨.slice ao n c, by rw [HT.out]; simp, by rw [HT.out]; exact HV.out _ b1, b1⟩

set_option maxHeartbeats 2000000 in
set_option maxRecDepth 100000 in
theorem trimmed_yes (S : Nat → Prop) (g : List Fr) (r : List (List Fr)) (hb : fullB (g :: r) = true) (ih : TrimsWell S r) : TrimsWell S (g :: r) := by
  intro first v w hv hR hL hf0 hf1
  have HF : Hid (Calls Try.prog 47 #[v] w fun e w' => e = .returned (.bool true) ∧ Below w.heap.size w w') := by
    have := isFull_any S v (g :: r) w hv hR hL
    rw [hb] at this
    exact this
  have HT : Hid (trimD (g :: r) = trimD r + 1) := trimD_yes hb
  have h1 := fullB_len hb
  obtain ⟨a0, c0, e0, hc0, _⟩ := hv.len
  subst e0
  obtain ⟨b, off, e1, _, hc1, hta⟩ := hv.tail h1
  subst e1
  obtain ⟨m, hm⟩ : ∃ m, m = (g :: r).length := ⟨_, rfl⟩
  rw [← hm] at hta h1 hL hc0 hc1 HF
  obtain ⟨D, hD⟩ : ∃ D, D = trimD r := ⟨_, rfl⟩
  have HTA : Hid (Stay w (fun U => GrsIn S U (.slice (some ⟨b, off + 1, none⟩) (m - 1) (c0 - 1)) r)) := hta.stay
  have HI : Hid (∀ U : World, GrsIn S U (.slice (some ⟨b, off + 1, none⟩) (m - 1) (c0 - 1)) r → Calls Try.prog 48 #[.int .i64 (first + 1), .slice (some ⟨b, off + 1, none⟩) (m - 1) (c0 - 1)] U fun e w' => ∃ v', e = .returned (.tuple #[.int .i64 (first + 1 + D), v']) ∧ GrsIn S w' v' (r.drop D) ∧ Below U.heap.size U w') := fun U hU => by
    rw [hD]
    exact ih (first + 1) _ U hU (fun x hx => hR x (List.mem_cons_of_mem _ hx)) (by simp at hm; omega) (by omega) (by simp at hf1 ⊢; omega)
  rw [← hD] at HT
  have hmi : (1 : Int) < (m : Int) := by omega
  have hmm : 1 ≤ m := by omega
  have hlast : first ≤ 1000000000 := by simp at hf1; omega
  rw [← hm]
  clear hv hta hm hR hf1 hb hD ih
  go_enter Try.func48, Try.ntmps48
  go_wp2_with fail
  refine HF.out.mono ?_
  rintro e w1 ⟨rfl, b1⟩
  have B1 : Hid (Below w.heap.size w w1) := b1
  clear b1
  go_wp2_with fail
  refine (HI.out _ (HTA.out _ B1.out)).mono ?_
  rintro e w2 ⟨v', rfl, h2, b2⟩
  have B2 : Hid (Below w.heap.size w w2) := B1.out.trans (b2.mono B1.out.size)
  have H2 : Hid (GrsIn S w2 v' (r.drop D)) := h2
  clear b2 h2
  go_wp2_with fail
  rw [HT.out]
  exact bodyPost_ret (v := .tuple #[.int .i64 (first + 1 + D), v']) (by simp [results, Try.results48, go_sem]) rfl ⟨v', by rw [show first + 1 + (D : Int) = first + ((D + 1 : Nat) : Int) by omega], by rw [List.drop_succ_cons]; exact H2.out, B2.out⟩

theorem trimmed_any (S : Nat → Prop) (L : List (List Fr)) : TrimsWell S L := by
  induction L with
  | nil => exact trimmed_no S [] fullB_nil
  | cons g r ih =>
    cases hb : fullB (g :: r)
    · exact trimmed_no S _ hb
    · exact trimmed_yes S g r hb ih

set_option maxHeartbeats 2000000 in
set_option maxRecDepth 100000 in
theorem refCheckStore_any (S : Nat → Prop) (first : Int) (gv ov : Value) (L : List (List Fr)) (O : List Fr) (w : World) (hg : GrsIn S w gv L) (ho : FrsIn S w ov O) :
    Calls Try.prog 24 #[.agg #[.int .i64 first, gv, ov]] w fun e w' => e = .returned (.int .i64 (stchk first L O)) ∧ Below w.heap.size w w' := by
  have HG : Hid (GrsIn S w gv L) := hg
  have HO : Hid (FrsIn S w ov O) := ho
  obtain ⟨ao, c, hva, h1, h2, hc⟩ := hg
  obtain ⟨oa, oc, eo, _, hol⟩ := ho.len
  obtain ⟨n, hn⟩ : ∃ n, n = L.length := ⟨_, rfl⟩
  obtain ⟨m, hm⟩ : ∃ m, m = O.length := ⟨_, rfl⟩
  have HN : Hid (n = L.length) := hn
  have HC : Hid (∀ k, k < L.length → ∃ b off, ao = some ⟨b, off, none⟩ ∧ b < w.heap.size ∧ S b ∧ ∃ sv, w.cell? ⟨b, off + k, none⟩ = some sv ∧ FrsIn S w sv (L[k]?.getD [])) := hc
  rw [← hn] at hva h1
  rw [← hm] at eo hol
  obtain ⟨E, hE⟩ : ∃ E, E = stchk first L O := ⟨_, rfl⟩
  have HE : Hid (E = if first < 0 then 3 else if 100000 < first then 3 else if 5 < n then 2 else
    if goN (fun k => gchk (grAt L k)) n 0 = 0 then (if tooB L then 2 else if 0 < m then gchk O else 0) else goN (fun k => gchk (grAt L k)) n 0) := by show _ = _; rw [hE, hn, hm]; rfl
  rw [← hE]
  clear hc hn hm hE ho
  subst hva eo
  by_cases f1 : first < 0
  · have e : E = 3 := by rw [HE.out, if_pos f1]
    have f1d : decide (0 ≤ first) = false := decide_eq_false (by omega)
    rw [e]
    go_enter Try.func24, Try.ntmps24
    go_wp2
    go_ret
    exact ⟨rfl, (Below.refl _ _).alloc (Nat.le_refl _) _⟩
  by_cases f2 : 100000 < first
  · have e : E = 3 := by rw [HE.out, if_neg f1, if_pos f2]
    have f1d : decide (0 ≤ first) = true := decide_eq_true (by omega)
    have f2d : decide (first ≤ 100000) = false := decide_eq_false (by omega)
    rw [e]
    go_enter Try.func24, Try.ntmps24
    go_wp2
    go_ret
    exact ⟨rfl, (Below.refl _ _).alloc (Nat.le_refl _) _⟩
  have f1d : decide (0 ≤ first) = true := decide_eq_true (by omega)
  have f2d : decide (first ≤ 100000) = true := decide_eq_true (by omega)
  by_cases f3 : 5 < n
  · have e : E = 2 := by rw [HE.out, if_neg f1, if_neg f2, if_pos f3]
    have f3i : (5 : Int) < (n : Int) := by omega
    rw [e]
    go_enter Try.func24, Try.ntmps24
    go_wp2
    go_ret
    exact ⟨rfl, (Below.refl _ _).alloc (Nat.le_refl _) _⟩
  have f3i : ¬ (5 : Int) < (n : Int) := by omega
  have HE2 : Hid (E = if goN (fun k => gchk (grAt L k)) n 0 = 0 then (if tooB L then 2 else if 0 < m then gchk O else 0) else goN (fun k => gchk (grAt L k)) n 0) := by show _ = _; rw [HE.out, if_neg f1, if_neg f2, if_neg f3]
  clear HE
  go_enter Try.func24, Try.ntmps24
  go_wp2
  go_loopw [3] (fun i wr => ∃ k : Nat, k ≤ n ∧ i = .int .i64 k ∧ Hid (∀ j, j < k → gchk (grAt L j) = 0) ∧ Hid (Blk wr w.heap.size #[.int .i64 first, .slice ao n c, .slice oa m oc] 51) ∧ Hid (Below w.heap.size w wr))
    (fun i _ => n - (intOf i).toNat)
  case atStart => exact ⟨0, Nat.zero_le _, rfl, (show ∀ j, _ → _ from fun j hj => absurd hj (Nat.not_lt_zero _)), Blk.new _ _ _, (Below.refl _ _).alloc (Nat.le_refl _) _⟩
  case round =>
    obtain ⟨k, hk, rfl, HK, KB, HB⟩ := hrel
    by_cases hlt : k < n
    · obtain ⟨b, off, rfl, hb, _, sv, c0, hs⟩ := HC.out k (by rw [← HN.out]; exact hlt)
      obtain ⟨g, hg⟩ : ∃ g, g = grAt L k := ⟨_, rfl⟩
      rw [show L[k]?.getD [] = g from hg.symm] at hs
      have c1 := (HB.out.cell (p := ⟨b, off + k, none⟩) hb).trans c0
      obtain ⟨sa, sc, esv, _, _⟩ := hs.len
      obtain ⟨gn, hgn⟩ : ∃ gn, gn = g.length := ⟨_, rfl⟩
      rw [← hgn] at esv
      obtain ⟨e, he⟩ : ∃ e, e = gchk g := ⟨_, rfl⟩
      have HS : Hid (∀ U, Below w.heap.size w U → Calls Try.prog 14 #[.agg #[sv]] U fun e' w'' => e' = .returned (.int .i64 e) ∧ Below U.heap.size U w'') := fun U hU => by
        rw [he]; exact refCheckGroup_any S sv g U (hs.below hU)
      have hlti : (k : Int) < (n : Int) := by omega
      have HGE : Hid (e = gchk (grAt L k)) := by show _ = _; rw [he, hg]
      clear hs hg hgn he c0
      subst esv
      obtain ⟨k0, k1, k2⟩ := KB.out.three
      go_wp2_with fail
      have B1 : Hid (Below w.heap.size w wr) := HB
      have K1 := KB
      refine (HS.out _ B1.out).mono ?_
      rintro e' w2 ⟨rfl, hb2⟩
      have B2 : Hid (Below w.heap.size w w2) := B1.out.trans (hb2.mono B1.out.size)
      have K2 : Hid (Blk w2 w.heap.size #[.int .i64 first, .slice (some ⟨b, off, none⟩) n c, .slice oa m oc] 51) := K1.out.below hb2 K1.out.lt
      clear hb2 c1 K1 B1 KB HB k0 k1 k2
      by_cases he0 : e = 0
      · have HK2 : Hid (∀ j, j < k + 1 → gchk (grAt L j) = 0) := fun j hj => by
          by_cases e' : j = k
          · subst e'; rw [← HGE.out]; exact he0
          · exact HK.out j (by omega)
        clear HGE
        subst he0
        go_wp2_with fail
        go_roundw
        case rel => exact ⟨k + 1, by omega, by go_num, HK2, K2, B2⟩
        case measure => simp [intOf]; omega
      · have hE : E = e := by
          have hh := goN_hit (e := fun k => gchk (grAt L k)) n 0 k (Nat.zero_le _) (by omega) (fun j _ hj => HK.out j hj) (by show ¬ gchk (grAt L k) = 0; rw [← HGE.out]; exact he0)
          change goN (fun k => gchk (grAt L k)) n 0 = gchk (grAt L k) at hh
          rw [← HGE.out] at hh
          rw [HE2.out, hh, if_neg he0]
        have HEE : Hid (E = e) := hE
        clear hE
        go_wp2
        go_ret
        exact ⟨by rw [HEE.out]; rfl, B2.out⟩
    · have hkl : k = n := by omega
      subst hkl
      have hz : goN (fun k => gchk (grAt L k)) k 0 = 0 := goN_all _ _ (fun j _ hj => HK.out j (by omega))
      have HE3 : Hid (E = if tooB L then 2 else if 0 < m then gchk O else 0) := by show _ = _; rw [HE2.out, if_pos hz]
      obtain ⟨T, hT⟩ : ∃ T, T = tooB L := ⟨_, rfl⟩
      have HTG : Hid (∀ U, Below w.heap.size w U → Calls Try.prog 47 #[.slice ao k c] U fun e' w'' => e' = .returned (.bool T) ∧ Below U.heap.size U w'') := fun U hU => by
        rw [hT, ← show fullB L = tooB L by unfold fullB; rw [decide_eq_false (by rw [← HN.out]; omega)]; rfl]
        refine isFull_any S _ L U (HG.out.below hU) (fun g hg => ?_) (by rw [← HN.out]; omega)
        obtain ⟨j, hj, e⟩ := List.mem_iff_getElem.1 hg
        have := HK.out j (by rw [HN.out]; exact hj)
        rw [show grAt L j = g by simp [grAt, List.getElem?_eq_getElem hj, e]] at this
        exact this
      have HE4 : Hid (E = if T then 2 else if 0 < m then gchk O else 0) := by show _ = _; rw [hT]; exact HE3.out
      clear hz hT HE3 HE2
      obtain ⟨k0, k1, k2⟩ := KB.out.three
      go_wp2_with fail
      refine (HTG.out _ HB.out).mono ?_
      rintro e' w2 ⟨rfl, hb2⟩
      have B2 : Hid (Below w.heap.size w w2) := HB.out.trans (hb2.mono HB.out.size)
      obtain ⟨j0, j1, j2⟩ := (KB.out.below hb2 KB.out.lt).three
      clear hb2 k0 k1 k2
      cases T
      case true =>
        have HEE : Hid (E = 2) := HE4.out
        go_wp2
        go_ret
        exact ⟨by rw [HEE.out]; rfl, B2.out⟩
      case false =>
        by_cases hm0 : 0 < m
        · have hm0i : (0 : Int) < (m : Int) := by omega
          have HEO : Hid (E = gchk O) := by show _ = _; rw [HE4.out]; simp [hm0]
          go_wp2_with fail
          refine (refCheckGroup_any S _ O _ (HO.out.below B2.out)).mono ?_
          rintro e' w3 ⟨rfl, hb3⟩
          rw [← HEO.out]
          have B3 : Hid (Below w.heap.size w w3) := B2.out.trans (hb3.mono B2.out.size)
          clear hb3 j0 j1 j2
          go_wp2
          go_ret
          exact ⟨rfl, B3.out⟩
        · have hm0i : ¬ (0 : Int) < (m : Int) := by omega
          have HEE : Hid (E = 0) := by show _ = _; rw [HE4.out]; simp [hm0]
          go_wp2
          go_ret
          exact ⟨by rw [HEE.out]; rfl, B2.out⟩

end Go.Proofs.Ytgmnhbmjnllhhac
