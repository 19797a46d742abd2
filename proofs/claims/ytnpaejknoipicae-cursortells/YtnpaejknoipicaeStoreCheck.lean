/-
  Contracts: store.areTooGreat, store.Check.
-/
import Derived.Test.YtnpaejknoipicaeStorePlain
import Derived.Test.YtnpaejknoipicaeGroupCheck
import Derived.Test.YtnpaejknoipicaeNest
namespace Go.Proofs.Ytnpaejknoipicae
open Go.RowKit

set_option maxHeartbeats 4000000 in
theorem areTooGreat_any (S : Nat → Prop) (v : Value) (L : List (List Fr)) (w : World) (hv : GrsIn S w v L) (hL : L.length ≤ 1000) :
    Calls Try.prog 53 #[v] w fun e w' => e = .returned (.bool (tooB L)) ∧ Below w.heap.size w w' := by
  obtain ⟨ao, c, hva, h1, h2, hc⟩ := hv
  obtain ⟨n, hn⟩ : ∃ n, n = L.length := ⟨_, rfl⟩
  have HN : Hid (n = L.length) := hn
  have HC : Hid (∀ k, k < L.length → ∃ b off, ao = some ⟨b, off, none⟩ ∧ b < w.heap.size ∧ S b ∧ ∃ sv, w.cell? ⟨b, off + k, none⟩ = some sv ∧ FrsIn S w sv (L[k]?.getD [])) := hc
  rw [← hn] at hva h1 hL
  obtain ⟨T, hT⟩ : ∃ T, T = tooB L := ⟨_, rfl⟩
  have HT : Hid (T = tooB L) := hT
  rw [← hT]
  clear hc hn hT
  subst hva
  go_enter Try.func53, Try.ntmps53
  go_wp2_with fail
  go_loopw [3, 10] (fun s i wr => ∃ k y : Nat, k ≤ n ∧ i = .int .i64 k ∧ s = .int .i64 y ∧ Hid (y = sumG (L.take k)) ∧ Hid (y ≤ k * 192) ∧ Hid (Below w.heap.size w wr))
    (fun _ i _ => n - (intOf i).toNat)
  case atStart => exact ⟨0, 0, Nat.zero_le _, rfl, rfl, (show 0 = sumG [] from rfl), (show 0 ≤ 0 from Nat.le_refl _), Below.refl _ _⟩
  case round =>
    obtain ⟨k, y, hk, rfl, rfl, HY, HYL, HB⟩ := hrel
    by_cases hlt : k < n
    · obtain ⟨b, off, rfl, hb, _, sv, c0, hs⟩ := HC.out k (by rw [← HN.out]; exact hlt)
      obtain ⟨g, hg⟩ : ∃ g, g = L[k]?.getD [] := ⟨_, rfl⟩
      rw [← hg] at hs
      have c1 := (HB.out.cell (p := ⟨b, off + k, none⟩) hb).trans c0
      obtain ⟨sa, sc, esv, _, _⟩ := hs.len
      obtain ⟨gn, hgn⟩ : ∃ gn, gn = g.length := ⟨_, rfl⟩
      rw [← hgn] at esv
      obtain ⟨z, hz⟩ : ∃ z : Nat, z = gsize g := ⟨_, rfl⟩
      obtain ⟨e, he⟩ : ∃ e, e = gchk g := ⟨_, rfl⟩
      have HS : Hid (∀ U, Below w.heap.size w U → Calls Try.prog 66 #[.agg #[sv]] U fun e' w'' => e' = .returned (.tuple #[.int .i64 z, .int .i64 e]) ∧ Below U.heap.size U w'') := fun U hU => by
        rw [hz, he]; exact groupSize_any S sv g U (hs.below hU)
      have HY2 : Hid (y + z = sumG (L.take (k + 1))) := by show _ = _; rw [sumG_take L k (by rw [← HN.out]; exact hlt), HY.out, hz, hg]
      have hz2 : z ≤ 192 := by rw [hz]; exact gsize_le g
      have hyl := HYL.out
      have hlti : (k : Int) < (n : Int) := by omega
      clear hs hg hgn hz he c0
      subst esv
      go_wp2_with fail
      have B1 : Hid (Below w.heap.size w (wr.alloc (.cells #[.slice sa gn sc] 34))) := HB.out.alloc HB.out.size _
      refine (HS.out _ B1.out).mono ?_
      rintro e' w2 ⟨rfl, hb2⟩
      have B2 : Hid (Below w.heap.size w w2) := B1.out.trans (hb2.mono B1.out.size)
      clear hb2 c1
      go_wp2_with fail
      go_roundw
      case rel => exact ⟨k + 1, y + z, by omega, by go_num, by go_num, HY2, (show _ ≤ _ by omega), B2⟩
      case measure => simp [intOf]; omega
    · have hkl : k = n := by omega
      subst hkl
      have hy : y = sumG L := by rw [HY.out, HN.out, List.take_length]
      have hT : T = (decide (1 < k) && decide (100 < y)) := by rw [HT.out, hy]; unfold tooB; rw [← HN.out]
      clear hy
      by_cases h1 : 1 < k
      · have h1i : (1 : Int) < (k : Int) := by omega
        by_cases h2 : 100 < y
        · have h2i : (100 : Int) < (y : Int) := by omega
          have hT2 : T = true := by rw [hT]; simp [h1, h2]
          go_wp2
          go_ret
          exact ⟨by first | rfl | (rw [hT2]; rfl), HB.out⟩
        · have h2i : ¬ (100 : Int) < (y : Int) := by omega
          have hT2 : T = false := by rw [hT]; simp [h1, h2]
          go_wp2
          go_ret
          exact ⟨by first | rfl | (rw [hT2]; rfl), HB.out⟩
      · have h1i : ¬ (1 : Int) < (k : Int) := by omega
        have hT2 : T = false := by rw [hT]; simp [h1]
        go_wp2
        go_ret
        exact ⟨by first | rfl | (rw [hT2]; rfl), HB.out⟩

set_option maxHeartbeats 4000000 in
theorem storeCheck_any (S : Nat → Prop) (first : Int) (gv ov : Value) (L : List (List Fr)) (O : List Fr) (w : World) (hg : GrsIn S w gv L) (ho : FrsIn S w ov O) :
    Calls Try.prog 40 #[.agg #[.int .i64 first, gv, ov]] w fun e w' => e = .returned (.int .i64 (stchk first L O)) ∧ Below w.heap.size w w' := by
  have HG : Hid (GrsIn S w gv L) := hg
  have HO : Hid (FrsIn S w ov O) := ho
  obtain ⟨ao, c, hva, h1, h2, hc⟩ := hg
  obtain ⟨oa, oc, eo, _, hol⟩ := ho.len
  obtain ⟨n, hn⟩ : ∃ n, n = L.length := ⟨_, rfl⟩
  obtain ⟨m, hm⟩ : ∃ m, m = O.length := ⟨_, rfl⟩
  have HN : Hid (n = L.length) := hn
  have HC : Hid (∀ k, k < L.length → ∃ b off, ao = some ⟨b, off, none⟩ ∧ b < w.heap.size ∧ S b ∧ ∃ sv, w.cell? ⟨b, off + k, none⟩ = some sv ∧ FrsIn S w sv (L[k]?.getD [])) := hc
  rw [← hn] at hva h1
  rw [← hm] at eo hol
  obtain ⟨E, hE⟩ : ∃ E, E = stchk first L O := ⟨_, rfl⟩
  have HE : Hid (E = if first < 0 then 3 else if 100000 < first then 3 else if 5 < n then 2 else
    if goN (fun k => gchk (grAt L k)) n 0 = 0 then (if tooB L then 2 else if 0 < m then gchk O else 0) else goN (fun k => gchk (grAt L k)) n 0) := by show _ = _; rw [hE, hn, hm]; rfl
  rw [← hE]
  clear hc hn hm hE ho
  subst hva eo
  by_cases f1 : first < 0
  · have e : E = 3 := by rw [HE.out, if_pos f1]
    rw [e]
    go_enter Try.func40, Try.ntmps40
    go_wp2
    go_ret
    exact ⟨rfl, (Below.refl _ _).alloc (Nat.le_refl _) _⟩
  by_cases f2 : 100000 < first
  · have e : E = 3 := by rw [HE.out, if_neg f1, if_pos f2]
    rw [e]
    go_enter Try.func40, Try.ntmps40
    go_wp2
    go_ret
    exact ⟨rfl, (Below.refl _ _).alloc (Nat.le_refl _) _⟩
  by_cases f3 : 5 < n
  · have e : E = 2 := by rw [HE.out, if_neg f1, if_neg f2, if_pos f3]
    have f3i : (5 : Int) < (n : Int) := by omega
    rw [e]
    go_enter Try.func40, Try.ntmps40
    go_wp2
    go_ret
    exact ⟨rfl, (Below.refl _ _).alloc (Nat.le_refl _) _⟩
  have f3i : ¬ (5 : Int) < (n : Int) := by omega
  have HE2 : Hid (E = if goN (fun k => gchk (grAt L k)) n 0 = 0 then (if tooB L then 2 else if 0 < m then gchk O else 0) else goN (fun k => gchk (grAt L k)) n 0) := by show _ = _; rw [HE.out, if_neg f1, if_neg f2, if_neg f3]
  clear HE
  go_enter Try.func40, Try.ntmps40
  go_wp2_with fail
  go_loopw [21] (fun i wr => ∃ k : Nat, k ≤ n ∧ i = .int .i64 k ∧ Hid (∀ j, j < k → gchk (grAt L j) = 0) ∧ Hid (Blk wr w.heap.size #[.int .i64 first, .slice ao n c, .slice oa m oc] 36) ∧ Hid (Below w.heap.size w wr))
    (fun i _ => n - (intOf i).toNat)
  case atStart => exact ⟨0, Nat.zero_le _, rfl, (show ∀ j, _ → _ from fun j hj => absurd hj (Nat.not_lt_zero _)), Blk.new _ _ _, (Below.refl _ _).alloc (Nat.le_refl _) _⟩
  case round =>
    obtain ⟨k, hk, rfl, HK, KB, HB⟩ := hrel
    by_cases hlt : k < n
    · obtain ⟨b, off, rfl, hb, _, sv, c0, hs⟩ := HC.out k (by rw [← HN.out]; exact hlt)
      obtain ⟨g, hg⟩ : ∃ g, g = grAt L k := ⟨_, rfl⟩
      rw [show L[k]?.getD [] = g from hg.symm] at hs
      have c1 := (HB.out.cell (p := ⟨b, off + k, none⟩) hb).trans c0
      obtain ⟨sa, sc, esv, _, _⟩ := hs.len
      obtain ⟨gn, hgn⟩ : ∃ gn, gn = g.length := ⟨_, rfl⟩
      rw [← hgn] at esv
      obtain ⟨e, he⟩ : ∃ e, e = gchk g := ⟨_, rfl⟩
      have HS : Hid (∀ U, Below w.heap.size w U → Calls Try.prog 52 #[.agg #[sv]] U fun e' w'' => e' = .returned (.int .i64 e) ∧ Below U.heap.size U w'') := fun U hU => by
        rw [he]; exact groupCheck_any S sv g U (hs.below hU)
      have hlti : (k : Int) < (n : Int) := by omega
      have HGE : Hid (e = gchk (grAt L k)) := by show _ = _; rw [he, hg]
      clear hs hg hgn he c0
      subst esv
      go_wp2_with fail
      have B1 : Hid (Below w.heap.size w (wr.alloc (.cells #[.slice sa gn sc] 34))) := HB.out.alloc HB.out.size _
      have K1 : Hid (Blk (wr.alloc (.cells #[.slice sa gn sc] 34)) w.heap.size #[.int .i64 first, .slice (some ⟨b, off, none⟩) n c, .slice oa m oc] 36) := KB.out.alloc _
      refine (HS.out _ B1.out).mono ?_
      rintro e' w2 ⟨rfl, hb2⟩
      have B2 : Hid (Below w.heap.size w w2) := B1.out.trans (hb2.mono B1.out.size)
      have K2 : Hid (Blk w2 w.heap.size #[.int .i64 first, .slice (some ⟨b, off, none⟩) n c, .slice oa m oc] 36) := K1.out.below hb2 K1.out.lt
      clear hb2 c1 K1 B1 KB HB
      by_cases he0 : e = 0
      · have HK2 : Hid (∀ j, j < k + 1 → gchk (grAt L j) = 0) := fun j hj => by
          by_cases e' : j = k
          · subst e'; rw [← HGE.out]; exact he0
          · exact HK.out j (by omega)
        clear HGE
        subst he0
        go_wp2_with fail
        go_roundw
        case rel => exact ⟨k + 1, by omega, by go_num, HK2, K2, B2⟩
        case measure => simp [intOf]; omega
      · have hE : E = e := by
          have hh := goN_hit (e := fun k => gchk (grAt L k)) n 0 k (Nat.zero_le _) (by omega) (fun j _ hj => HK.out j hj) (by show ¬ gchk (grAt L k) = 0; rw [← HGE.out]; exact he0)
          change goN (fun k => gchk (grAt L k)) n 0 = gchk (grAt L k) at hh
          rw [← HGE.out] at hh
          rw [HE2.out, hh, if_neg he0]
        have HEE : Hid (E = e) := hE
        clear hE
        go_wp2
        go_ret
        exact ⟨by rw [HEE.out]; rfl, B2.out⟩
    · have hkl : k = n := by omega
      subst hkl
      have hz : goN (fun k => gchk (grAt L k)) k 0 = 0 := goN_all _ _ (fun j _ hj => HK.out j (by omega))
      have HE3 : Hid (E = if tooB L then 2 else if 0 < m then gchk O else 0) := by show _ = _; rw [HE2.out, if_pos hz]
      obtain ⟨T, hT⟩ : ∃ T, T = tooB L := ⟨_, rfl⟩
      have HTG : Hid (∀ U, Below w.heap.size w U → Calls Try.prog 53 #[.slice ao k c] U fun e' w'' => e' = .returned (.bool T) ∧ Below U.heap.size U w'') := fun U hU => by
        rw [hT]; exact areTooGreat_any S _ L U (HG.out.below hU) (by rw [← HN.out]; omega)
      have HE4 : Hid (E = if T then 2 else if 0 < m then gchk O else 0) := by show _ = _; rw [hT]; exact HE3.out
      clear hz hT HE3 HE2
      obtain ⟨k0, k1, k2⟩ := KB.out.three
      go_wp2_with fail
      refine (HTG.out _ HB.out).mono ?_
      rintro e' w2 ⟨rfl, hb2⟩
      have B2 : Hid (Below w.heap.size w w2) := HB.out.trans (hb2.mono HB.out.size)
      obtain ⟨j0, j1, j2⟩ := (KB.out.below hb2 KB.out.lt).three
      clear hb2 k0 k1 k2
      cases T
      case true =>
        have HEE : Hid (E = 2) := HE4.out
        go_wp2
        go_ret
        exact ⟨by rw [HEE.out]; rfl, B2.out⟩
      case false =>
        by_cases hm0 : 0 < m
        · have hm0i : (0 : Int) < (m : Int) := by omega
          have HEO : Hid (E = gchk O) := by show _ = _; rw [HE4.out]; simp [hm0]
          go_wp2_with fail
          refine (groupCheck_any S _ O _ (HO.out.below B2.out)).mono ?_
          rintro e' w3 ⟨rfl, hb3⟩
          rw [← HEO.out]
          have B3 : Hid (Below w.heap.size w w3) := B2.out.trans (hb3.mono B2.out.size)
          clear hb3 j0 j1 j2
          go_wp2
          go_ret
          exact ⟨rfl, B3.out⟩
        · have hm0i : ¬ (0 : Int) < (m : Int) := by omega
          have HEE : Hid (E = 0) := by show _ = _; rw [HE4.out]; simp [hm0]
          go_wp2
          go_ret
          exact ⟨by rw [HEE.out]; rfl, B2.out⟩

end Go.Proofs.Ytnpaejknoipicae
