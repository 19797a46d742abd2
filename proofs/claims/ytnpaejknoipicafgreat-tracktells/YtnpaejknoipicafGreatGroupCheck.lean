/-
  Contracts: group.isInPlace, group.Check, group.Size.
-/
import Derived.Test.YtnpaejknoipicafGreatGroupPlain
import Derived.BigQuiet
namespace Go.Proofs.YtnpaejknoipicafGreat
open Go.RowKit

set_option maxHeartbeats 1600000 in
theorem isInPlace_any (S : Nat → Prop) (v : Value) (l : List Fr) (k : Nat) (w : World) (hv : FrsIn S w v l) (hk : k < l.length) :
    Calls Tryz.prog 128 #[v, .int .i64 k] w fun e w' => e = .returned (.bool (inPl l k)) ∧ Below w.heap.size w w' := by
  obtain ⟨ao, c, hva, h1, h2, hc⟩ := hv
  obtain ⟨b, off, rfl, hb, _, pv, c0, c1, _⟩ := hc k hk
  obtain ⟨n, hn⟩ : ∃ n, n = l.length := ⟨_, rfl⟩
  rw [← hn] at hva hk h1
  have hki : (k : Int) < (n : Int) := by omega
  unfold inPl
  by_cases h0 : k = 0
  · rw [if_pos h0]
    subst h0
    simp only [Nat.zero_mul, Nat.add_zero] at c0 c1
    obtain ⟨q, hq⟩ : ∃ q, q = (frAt l 0).key := ⟨_, rfl⟩
    rw [← hq] at c1 ⊢
    subst hva
    clear hn hc hq
    cases q
    all_goals
      go_enter Tryz.func128, Tryz.ntmps128
      go_wp2_with fail
      go_quiet (fail)
      go_wp2
      go_ret
      exact ⟨rfl, below_drewN (Below.refl _ _) _⟩
  · rw [if_neg h0]
    obtain ⟨b', off', e1, _, _, pv', d0, _⟩ := hc (k - 1) (by omega)
    injection e1 with e1
    injection e1 with e1 e2
    subst e1 e2
    obtain ⟨k1, hk1⟩ : ∃ k1, k1 = k - 1 := ⟨_, rfl⟩
    rw [← hk1] at d0 ⊢
    have hk1i : (k : Int) - 1 = (k1 : Int) := by omega
    have hk1l : (k1 : Int) < (n : Int) := by omega
    have hk1w : IntKind.i64.wrap (k1 : Int) = (k1 : Int) := by rw [IntKind.wrap_i64]; omega
    have hk0i : ((k : Int) == 0) = false := by simpa using h0
    obtain ⟨q, hq⟩ : ∃ q, q = (frAt l k).key := ⟨_, rfl⟩
    obtain ⟨t, ht⟩ : ∃ t, t = (frAt l k).time := ⟨_, rfl⟩
    obtain ⟨t', ht'⟩ : ∃ t', t' = (frAt l k1).time := ⟨_, rfl⟩
    rw [← hq, ← ht, ← ht']
    rw [← hq] at c1
    rw [← ht] at c0
    rw [← ht'] at d0
    subst hva
    clear hn hc hq ht ht' hk1 h0
    cases q
    all_goals
      go_enter Tryz.func128, Tryz.ntmps128
      go_wp2_with fail
      go_quiet (fail)
      go_wp2
      go_ret
      exact ⟨by simp, below_drewN (Below.refl _ _) _⟩

set_option maxHeartbeats 2000000 in
theorem groupCheck_any (S : Nat → Prop) (v : Value) (l : List Fr) (w : World) (hv : FrsIn S w v l) :
    Calls Tryz.prog 84 #[.agg #[v]] w fun e w' => e = .returned (.int .i64 (gchk l)) ∧ Below w.heap.size w w' := by
  have HV : Hid (FrsIn S w v l) := hv
  obtain ⟨ao, c, hva, h1, h2, hc⟩ := hv
  have HC : Hid (∀ k, k < l.length → ∃ b off, ao = some ⟨b, off, none⟩ ∧ b < w.heap.size ∧ S b ∧ At3In S w b (off + k * 3) (l[k]?.getD Fr.zero)) := hc
  obtain ⟨n, hn⟩ : ∃ n, n = l.length := ⟨_, rfl⟩
  have HN : Hid (n = l.length) := hn
  obtain ⟨G, hG⟩ : ∃ G, G = gchk l := ⟨_, rfl⟩
  have HG : Hid (G = if n = 0 then 5 else if 6 < n then 2 else goN (gerr l) n 0) := by show _ = _; rw [hG, hn]; rfl
  rw [← hn] at hva h1
  rw [← hG]
  clear hc hn hG
  subst hva
  by_cases h0 : n = 0
  · have hg : G = 5 := by rw [HG.out, if_pos h0]
    rw [hg]
    subst h0
    go_enter Tryz.func84, Tryz.ntmps84
    go_wp2
    go_ret
    exact ⟨rfl, by go_grown⟩
  have h0i : ((n : Int) == 0) = false := by simpa using h0
  by_cases h6 : 6 < n
  · have hg : G = 2 := by rw [HG.out, if_neg h0, if_pos h6]
    rw [hg]
    go_enter Tryz.func84, Tryz.ntmps84
    go_wp2
    go_ret
    exact ⟨rfl, by go_grown⟩
  have HG2 : Hid (G = goN (gerr l) n 0) := by show _ = _; rw [HG.out, if_neg h0, if_neg h6]
  have hn6 : n ≤ 6 := by omega
  clear HG h0 h6
  go_enter Tryz.func84, Tryz.ntmps84
  go_wp2_with fail
  go_loopw [17] (fun i wr => ∃ k : Nat, k ≤ n ∧ i = .int .i64 k ∧ Hid (∀ j, j < k → gerr l j = 0) ∧ Hid (Blk wr w.heap.size #[.slice ao n c] 25) ∧ Hid (Below w.heap.size w wr))
    (fun i _ => n - (intOf i).toNat)
  case atStart => exact ⟨0, Nat.zero_le _, rfl, (show ∀ j, j < 0 → _ from fun j hj => absurd hj (Nat.not_lt_zero _)), Blk.new w _ _, (Below.refl _ w).alloc (Nat.le_refl _) _⟩
  case round =>
    obtain ⟨k, hk, rfl, HK, KB, HB⟩ := hrel
    have b0 := KB.out.one
    by_cases hlt : k < n
    · obtain ⟨b, off, hao, hb, _, pv, c0, c1, c2, hp⟩ := HC.out k (by rw [← HN.out]; exact hlt)
      subst hao
      have d0 := (HB.out.cell (p := ⟨b, off + k * 3, none⟩) hb).trans c0
      have d1 := (HB.out.cell (p := ⟨b, off + k * 3 + 1, none⟩) hb).trans c1
      have d2 := (HB.out.cell (p := ⟨b, off + k * 3 + 2, none⟩) hb).trans c2
      obtain ⟨f, hf⟩ : ∃ f, f = frAt l k := ⟨_, rfl⟩
      rw [show (l[k]?.getD Fr.zero) = f from hf.symm] at d0 d1 hp
      obtain ⟨pa, pc, ep⟩ := hp.1.len
      obtain ⟨pn, hpn⟩ : ∃ pn, pn = f.parts.length := ⟨_, rfl⟩
      rw [← hpn] at ep
      subst ep
      obtain ⟨ft, fk, fp⟩ := f
      simp only at d0 d1 d2 hp hpn
      obtain ⟨ck, hck⟩ : ∃ ck, ck = chkF ft fp := ⟨_, rfl⟩
      have HCF : Hid (∀ w' : World, Strs w' (.slice pa pn pc) fp → Calls Tryz.prog 49 #[.agg #[.int .i64 ft, .bool fk, .slice pa pn pc]] w' fun e w'' => e = .returned (.int .i64 ck) ∧ Below w'.heap.size w' w'') := fun w' hs => by rw [hck]; exact frameCheck_any ft fk _ fp w' hs hp.2.1
      have HP : Hid (Strs wr (.slice pa pn pc) fp) := hp.1.below HB.out
      have HCK : Hid ((frAt l k).chk = ck) := by show _ = _; rw [← hf, hck]; rfl
      have hlti : (k : Int) < (n : Int) := by omega
      have HIP : Hid (∀ w' : World, FrsIn S w' (.slice (some ⟨b, off, none⟩) n c) l → Calls Tryz.prog 128 #[.slice (some ⟨b, off, none⟩) n c, .int .i64 k] w' fun e w'' => e = .returned (.bool (inPl l k)) ∧ Below w'.heap.size w' w'') := fun w' hs => isInPlace_any S _ l k w' hs (by rw [← HN.out]; exact hlt)
      obtain ⟨ip, hip⟩ : ∃ ip, ip = inPl l k := ⟨_, rfl⟩
      rw [← hip] at HIP
      have HII : Hid (ip = inPl l k) := hip
      have hbw := KB.out.lt
      clear c0 c1 c2 hp hf hck hpn hip
      go_wp2_with fail
      refine (HCF.out _ (HP.out.alloc _)).mono ?_
      rintro e w1 ⟨rfl, hb1⟩
      have B1 : Hid (Below wr.heap.size wr w1) := ((Below.refl _ wr).alloc (Nat.le_refl _) _).trans (hb1.mono (by simp))
      have K1 : Hid (Blk w1 w.heap.size #[.slice (some ⟨b, off, none⟩) n c] 25) := KB.out.below B1.out KB.out.lt
      have V1 : Hid (FrsIn S w1 (.slice (some ⟨b, off, none⟩) n c) l) := (HV.out.below HB.out).below B1.out
      have BB1 : Hid (Below w.heap.size w w1) := HB.out.trans (B1.out.mono HB.out.size)
      clear hb1 d0 d1 d2 b0
      have b1 := K1.out.one
      by_cases hc0 : ck = 0
      · subst hc0
        go_wp2_with fail
        refine (HIP.out _ V1.out).mono ?_
        rintro e w2 ⟨rfl, hb2⟩
        have K2 : Hid (Blk w2 w.heap.size #[.slice (some ⟨b, off, none⟩) n c] 25) := K1.out.below hb2 K1.out.lt
        have BB2 : Hid (Below w.heap.size w w2) := BB1.out.trans (hb2.mono BB1.out.size)
        clear hb2 b1
        cases ip
        · have HGE : Hid (G = 4) := by
            show _ = _
            have he : gerr l k = 4 := by unfold gerr; rw [if_pos HCK.out, ← HII.out]; rfl
            rw [HG2.out, goN_hit n 0 k (Nat.zero_le _) (by omega) (fun j _ hj => HK.out j hj) (by rw [he]; decide), he]
          go_wp2
          go_ret
          exact ⟨by rw [HGE.out]; rfl, BB2.out⟩
        · have HGE : Hid (gerr l k = 0) := gerr_zero.2 ⟨HCK.out, HII.out.symm⟩
          go_wp2
          go_roundw
          case rel => exact ⟨k + 1, by omega, by go_num, (show ∀ j, j < k + 1 → _ from fun j hj => by
            by_cases e : j = k
            · subst e; exact HGE.out
            · exact HK.out j (by omega)), K2, BB2⟩
          case measure => simp [intOf]; omega
      · have HGE : Hid (G = ck) := by
          show _ = _
          have he : gerr l k = ck := by unfold gerr; rw [if_neg (by rw [HCK.out]; exact hc0), HCK.out]
          rw [HG2.out, goN_hit n 0 k (Nat.zero_le _) (by omega) (fun j _ hj => HK.out j hj) (by rw [he]; exact hc0), he]
        go_wp2
        go_ret
        exact ⟨by rw [HGE.out]; rfl, BB1.out⟩
    · have hkl : k = n := by omega
      subst hkl
      have HGE : Hid (G = 0) := by show _ = _; rw [HG2.out]; exact goN_all _ _ (fun j _ hj => HK.out j (by omega))
      go_wp2
      go_ret
      exact ⟨by rw [HGE.out]; rfl, HB.out⟩

set_option maxHeartbeats 2000000 in
theorem groupSize_any (S : Nat → Prop) (v : Value) (l : List Fr) (w : World) (hv : FrsIn S w v l) :
    Calls Tryz.prog 129 #[.agg #[v]] w fun e w' => e = .returned (.tuple #[.int .i64 (gsize l), .int .i64 (gchk l)]) ∧ Below w.heap.size w w' := by
  have HCG : Hid (∀ w' : World, FrsIn S w' v l → Calls Tryz.prog 84 #[.agg #[v]] w' fun e w'' => e = .returned (.int .i64 (gchk l)) ∧ Below w'.heap.size w' w'') := fun w' hs => groupCheck_any S v l w' hs
  have HV : Hid (FrsIn S w v l) := hv
  obtain ⟨ao, c, hva, h1, h2, hc⟩ := hv
  have HC : Hid (∀ k, k < l.length → ∃ b off, ao = some ⟨b, off, none⟩ ∧ b < w.heap.size ∧ S b ∧ At3In S w b (off + k * 3) (l[k]?.getD Fr.zero)) := hc
  obtain ⟨n, hn⟩ : ∃ n, n = l.length := ⟨_, rfl⟩
  have HN : Hid (n = l.length) := hn
  obtain ⟨G, hG⟩ : ∃ G, G = gchk l := ⟨_, rfl⟩
  obtain ⟨Z, hZ⟩ : ∃ Z, Z = gsize l := ⟨_, rfl⟩
  have HZ : Hid (Z = if G = 0 then szG l else 0) := by show _ = _; rw [hZ, hG]; rfl
  have HGZ : Hid (G = 0 → 0 < l.length ∧ l.length ≤ 6 ∧ ∀ k, k < l.length → (frAt l k).chk = 0 ∧ inPl l k = true) := fun h => gchk_zero.1 (by rw [← hG]; exact h)
  rw [← hn] at hva h1
  rw [← hG] at HCG
  rw [← hG, ← hZ]
  clear hc hn hG hZ
  subst hva
  by_cases hG0 : G = 0
  case neg =>
    have hZ0 : Z = 0 := by rw [HZ.out, if_neg hG0]
    subst hZ0
    go_enter Tryz.func129, Tryz.ntmps129
    go_wp2_with fail
    refine (HCG.out _ (HV.out.alloc _)).mono ?_
    rintro e w1 ⟨rfl, hb1⟩
    have B1 : Hid (Below w.heap.size w w1) := ((Below.refl _ w).alloc (Nat.le_refl _) _).trans (hb1.mono (by simp))
    clear hb1
    go_wp2
    exact bodyPost_ret (v := .tuple #[.int .i64 0, .int .i64 G]) (by simp [results, Tryz.results129, go_sem]) rfl ⟨rfl, B1.out⟩
  have HZ2 : Hid (Z = szG l) := by show _ = _; rw [HZ.out, if_pos hG0]
  have hg := HGZ.out hG0
  have hn6 : n ≤ 6 := by rw [HN.out]; exact hg.2.1
  have HFR : Hid (∀ k, k < n → (frAt l k).chk = 0) := fun k hk => (hg.2.2 k (by rw [← HN.out]; exact hk)).1
  have HLE : Hid (∀ k, k ≤ n → szG (l.take k) ≤ k * 32) := fun k hk => szG_le (fun j hj => fr_szP (hg.2.2 j hj).1) k (by rw [← HN.out]; exact hk)
  subst hG0
  clear HZ HGZ hg
  go_enter Tryz.func129, Tryz.ntmps129
  go_wp2_with fail
  refine (HCG.out _ (HV.out.alloc _)).mono ?_
  rintro e w1 ⟨rfl, hb1⟩
  have B1 : Hid (Below w.heap.size w w1) := ((Below.refl _ w).alloc (Nat.le_refl _) _).trans (hb1.mono (by simp))
  have k0 := ((Blk.new w #[.slice ao n c] 25).below hb1 (by simp)).one
  clear hb1 HCG
  go_wp2_with fail
  go_loopw [5, 18] (fun s i wr => ∃ (k z : Nat), k ≤ n ∧ i = .int .i64 k ∧ s = .int .i64 z ∧ Hid (z = szG (l.take k)) ∧ Hid (Below w.heap.size w wr))
    (fun _ i _ => n - (intOf i).toNat)
  case atStart => exact ⟨0, 0, Nat.zero_le _, rfl, rfl, (show 0 = szG (l.take 0) from rfl), B1⟩
  case round =>
    obtain ⟨k, z, hk, rfl, rfl, HZK, HB⟩ := hrel
    by_cases hlt : k < n
    · obtain ⟨b, off, hao, hb, _, pv, c0, c1, c2, hp⟩ := HC.out k (by rw [← HN.out]; exact hlt)
      subst hao
      have d0 := (HB.out.cell (p := ⟨b, off + k * 3, none⟩) hb).trans c0
      have d1 := (HB.out.cell (p := ⟨b, off + k * 3 + 1, none⟩) hb).trans c1
      have d2 := (HB.out.cell (p := ⟨b, off + k * 3 + 2, none⟩) hb).trans c2
      obtain ⟨f, hf⟩ : ∃ f, f = frAt l k := ⟨_, rfl⟩
      rw [show (l[k]?.getD Fr.zero) = f from hf.symm] at d0 d1 hp
      obtain ⟨po, pc, ep, hpc⟩ := (hp.1.below HB.out).parts
      obtain ⟨pn, hpn⟩ : ∃ pn, pn = f.parts.length := ⟨_, rfl⟩
      have HPC : Hid (∀ j, j < f.parts.length → ∃ b off, po = some ⟨b, off, none⟩ ∧ b < wr.heap.size ∧ wr.cell? ⟨b, off + j, none⟩ = some (.string (f.parts[j]?.getD ByteArray.empty))) := hpc
      have HPN : Hid (pn = f.parts.length) := hpn
      rw [← hpn] at ep
      subst ep
      have hlti : (k : Int) < (n : Int) := by omega
      have hfz := HFR.out k hlt
      rw [← hf] at hfz
      have hp4 : pn ≤ 4 := by rw [hpn]; exact (chkF_zero hfz).2.2.2.1
      have hp8 : ∀ j, j < pn → (f.parts[j]?.getD ByteArray.empty).size ≤ 8 := fun j hj => by
        rw [List.getElem?_eq_getElem (by omega), Option.getD_some]
        exact (chkF_zero hfz).2.2.2.2 _ (List.getElem_mem _)
      have HP8 : Hid (∀ j, j < pn → (f.parts[j]?.getD ByteArray.empty).size ≤ 8) := hp8
      have hz := HLE.out k hk
      rw [← HZK.out] at hz
      have HSU : Hid (szG (l.take (k + 1)) = z + szP f.parts) := by show _ = _; rw [szG_take l k (by rw [← HN.out]; exact hlt), ← HZK.out, hf]
      clear c0 c1 c2 hp hpc hpn hfz hp8 hf
      go_wp2_with fail
      obtain ⟨W, hW⟩ : ∃ W, W = wr.alloc (.cells #[.int .i64 f.time, .bool f.key, .slice po pn pc] 30) := ⟨_, rfl⟩
      have BW : Hid (Below wr.heap.size wr W) := by rw [hW]; exact (Below.refl _ wr).alloc (Nat.le_refl _) _
      rw [← hW]
      clear hW d0 d1 d2
      go_loopw [5, 25] (fun s i wi => ∃ (j y : Nat), j ≤ pn ∧ i = .int .i64 j ∧ s = .int .i64 y ∧ Hid (y = z + szP (f.parts.take j)) ∧ Hid (y ≤ z + j * 8) ∧ W = wi)
        (fun _ i _ => pn - (intOf i).toNat)
      case atStart => exact ⟨0, z, Nat.zero_le _, rfl, rfl, (show z = z + szP (f.parts.take 0) from rfl), (show _ ≤ _ from Nat.le_refl _), rfl⟩
      case round =>
        obtain ⟨j, y, hj, rfl, rfl, HY, HYL, rfl⟩ := hrel
        by_cases hjl : j < pn
        · obtain ⟨b2, off2, hpo, hb2, hct⟩ := HPC.out j (by rw [← HPN.out]; exact hjl)
          have hct2 := (BW.out.cell (p := ⟨b2, off2 + j, none⟩) hb2).trans hct
          obtain ⟨s, hs⟩ : ∃ s, s = f.parts[j]?.getD ByteArray.empty := ⟨_, rfl⟩
          have h8 := HP8.out j hjl
          have HNY : Hid (y + s.size = z + szP (f.parts.take (j + 1))) := by show _ = _; rw [szP_take f.parts j (by rw [← HPN.out]; exact hjl), HY.out, ← hs]; omega
          rw [← hs] at hct2 h8
          subst hpo
          have hji : (j : Int) < (pn : Int) := by omega
          have hyl := HYL.out
          clear hct hs
          go_wp2_with fail
          go_roundw
          case rel => exact ⟨j + 1, y + s.size, by omega, by go_num, by go_num, HNY, (show _ ≤ _ by omega), by first | rfl | trivial⟩
          case measure => simp [intOf]; omega
        · have hjn : j = pn := by omega
          subst hjn
          have hyz := HY.out
          rw [HPN.out, List.take_length, ← HSU.out] at hyz
          have HY2 : Hid (y = szG (l.take (k + 1))) := hyz
          clear hyz
          go_wp2_with fail
          go_roundw
          case rel => exact ⟨k + 1, y, by omega, by go_num, rfl, HY2, HB.out.trans (BW.out.mono HB.out.size)⟩
          case measure => simp [intOf]; omega
    · have hkl : k = n := by omega
      subst hkl
      have HE : Hid (Z = z) := by show _ = _; rw [HZ2.out, HZK.out, HN.out, List.take_length]
      go_wp2
      exact bodyPost_ret (v := .tuple #[.int .i64 z, .int .i64 0]) (by simp [results, Tryz.results129, go_sem]) rfl ⟨by rw [HE.out], HB.out⟩

end Go.Proofs.YtnpaejknoipicafGreat
