/-
  Contracts: the document's CheckGroup, SizeOf, SameGroups.
-/
import Derived.Test.YtnpaejknoipicadGroupPlain
import Derived.Test.YtnpaejknoipicadRefFrame
import Derived.BigQuiet
namespace Go.Proofs.Ytnpaejknoipicad
open Go.RowKit Go.Sort

set_option maxHeartbeats 2000000 in
theorem refCheckGroup_any (S : Nat → Prop) (v : Value) (l : List Fr) (w : World) (hv : FrsIn S w v l) :
    Calls Try.prog 53 #[.agg #[v]] w fun e w' => e = .returned (.int .i64 (gchk l)) ∧ Below w.heap.size w w' := by
  obtain ⟨ao, c, hva, h1, h2, hc⟩ := hv
  have HC : Hid (∀ k, k < l.length → ∃ b off, ao = some ⟨b, off, none⟩ ∧ b < w.heap.size ∧ S b ∧ At3In S w b (off + k * 3) (l[k]?.getD Fr.zero)) := hc
  obtain ⟨n, hn⟩ : ∃ n, n = l.length := ⟨_, rfl⟩
  have HN : Hid (n = l.length) := hn
  obtain ⟨G, hG⟩ : ∃ G, G = gchk l := ⟨_, rfl⟩
  have HG : Hid (G = if n = 0 then 5 else if 6 < n then 2 else goN (gerr l) n 0) := by show _ = _; rw [hG, hn]; rfl
  rw [← hn] at hva h1
  rw [← hG]
  clear hc hn hG
  subst hva
  by_cases h0 : n = 0
  · have hg : G = 5 := by rw [HG.out, if_pos h0]
    rw [hg]
    subst h0
    go_enter Try.func53, Try.ntmps53
    go_wp2
    go_ret
    exact ⟨rfl, by go_grown⟩
  have h0i : ((n : Int) == 0) = false := by simpa using h0
  by_cases h6 : 6 < n
  · have hg : G = 2 := by rw [HG.out, if_neg h0, if_pos h6]
    rw [hg]
    go_enter Try.func53, Try.ntmps53
    go_wp2
    go_ret
    exact ⟨rfl, by go_grown⟩
  have HG2 : Hid (G = goN (gerr l) n 0) := by show _ = _; rw [HG.out, if_neg h0, if_neg h6]
  have hn6 : n ≤ 6 := by omega
  clear HG h0 h6
  go_enter Try.func53, Try.ntmps53
  go_wp2_with fail
  go_loopw [3] (fun i wr => ∃ k : Nat, k ≤ n ∧ i = .int .i64 k ∧ Hid (∀ j, j < k → gerr l j = 0) ∧ Hid (Blk wr w.heap.size #[.slice ao n c] 25) ∧ Hid (Below w.heap.size w wr))
    (fun i _ => n - (intOf i).toNat)
  case atStart => exact ⟨0, Nat.zero_le _, rfl, (show ∀ j, j < 0 → _ from fun j hj => absurd hj (Nat.not_lt_zero _)), Blk.new w _ _, (Below.refl _ w).alloc (Nat.le_refl _) _⟩
  case round =>
    obtain ⟨k, hk, rfl, HK, KB, HB⟩ := hrel
    have b0 := KB.out.one
    by_cases hlt : k < n
    · obtain ⟨b, off, hao, hb, _, pv, c0, c1, c2, hp⟩ := HC.out k (by rw [← HN.out]; exact hlt)
      subst hao
      have d0 := (HB.out.cell (p := ⟨b, off + k * 3, none⟩) hb).trans c0
      have d1 := (HB.out.cell (p := ⟨b, off + k * 3 + 1, none⟩) hb).trans c1
      have d2 := (HB.out.cell (p := ⟨b, off + k * 3 + 2, none⟩) hb).trans c2
      obtain ⟨f, hf⟩ : ∃ f, f = frAt l k := ⟨_, rfl⟩
      rw [show (l[k]?.getD Fr.zero) = f from hf.symm] at c0 c1 d0 d1 hp
      obtain ⟨pa, pc, ep⟩ := hp.1.len
      obtain ⟨pn, hpn⟩ : ∃ pn, pn = f.parts.length := ⟨_, rfl⟩
      rw [← hpn] at ep
      subst ep
      obtain ⟨ft, fk, fp⟩ := f
      simp only at c0 c1 d0 d1 d2 hp hpn
      obtain ⟨ck, hck⟩ : ∃ ck, ck = chkF ft fp := ⟨_, rfl⟩
      have HCF : Hid (∀ w' : World, Strs w' (.slice pa pn pc) fp → Calls Try.prog 80 #[.agg #[.int .i64 ft, .bool fk, .slice pa pn pc]] w' fun e w'' => e = .returned (.int .i64 ck) ∧ Below w'.heap.size w' w'') := fun w' hs => by rw [hck]; exact refCheckFrame_any ft fk _ fp w' hs hp.2.1
      have HP : Hid (Strs wr (.slice pa pn pc) fp) := hp.1.below HB.out
      have HCK : Hid ((frAt l k).chk = ck) := by show _ = _; rw [← hf, hck]; rfl
      have hlti : (k : Int) < (n : Int) := by omega
      have hbw := KB.out.lt
      have HC0 : Hid (w.cell? ⟨b, off + k * 3, none⟩ = some (.int .i64 ft)) := c0
      have HC1 : Hid (w.cell? ⟨b, off + k * 3 + 1, none⟩ = some (.bool fk)) := c1
      have HF : Hid ((frAt l k).time = ft ∧ (frAt l k).key = fk) := by rw [← hf]; exact ⟨rfl, rfl⟩
      clear c0 c1 c2 hp hf hck hpn
      go_wp2_with fail
      refine (HCF.out _ HP.out).mono ?_
      rintro e w1 ⟨rfl, hb1⟩
      have K1 : Hid (Blk w1 w.heap.size #[.slice (some ⟨b, off, none⟩) n c] 25) := KB.out.below hb1 KB.out.lt
      have BB1 : Hid (Below w.heap.size w w1) := HB.out.trans (hb1.mono HB.out.size)
      clear hb1 d0 d1 d2 b0
      have b1 := K1.out.one
      by_cases hc0 : ck = 0
      · subst hc0
        have d0 := (BB1.out.cell (p := ⟨b, off + k * 3, none⟩) hb).trans HC0.out
        have d1 := (BB1.out.cell (p := ⟨b, off + k * 3 + 1, none⟩) hb).trans HC1.out
        have BAD : Hid (inPl l k = false → G = 4) := fun h => by
          have he : gerr l k = 4 := by unfold gerr; rw [if_pos HCK.out, h]; rfl
          rw [HG2.out, goN_hit n 0 k (Nat.zero_le _) (by omega) (fun j _ hj => HK.out j hj) (by rw [he]; decide), he]
        have GOOD : Hid (inPl l k = true → ∀ j, j < k + 1 → gerr l j = 0) := fun h j hj => by
          by_cases e : j = k
          · subst e; exact gerr_zero.2 ⟨HCK.out, h⟩
          · exact HK.out j (by omega)
        by_cases hk0 : k = 0
        · have hki : ((k : Int) == 0) = true := by simpa using hk0
          have hkd : decide (0 < k) = false := decide_eq_false (by omega)
          have HIP : Hid (inPl l k = fk) := by show _ = _; unfold inPl; rw [if_pos hk0]; exact HF.out.2
          clear hk0
          cases fk
          · have HGE : Hid (G = 4) := BAD.out HIP.out
            go_wp2_with fail
            go_quiet (fail)
            go_wp2
            go_ret
            exact ⟨by rw [HGE.out]; rfl, below_drewN BB1.out _⟩
          · have HGO : Hid (∀ j, j < k + 1 → gerr l j = 0) := GOOD.out HIP.out
            go_wp2_with fail
            go_quiet (fail)
            go_wp2
            go_roundw
            case rel => exact ⟨k + 1, by omega, by go_num, HGO, K1.out, below_drewN BB1.out _⟩
            case measure => simp [intOf]; omega
        · have hki : ((k : Int) == 0) = false := by simpa using hk0
          have hkd : decide (0 < k) = true := decide_eq_true (by omega)
          obtain ⟨b', off', e1, hb', _, pv', t0, _⟩ := HC.out (k - 1) (by rw [← HN.out]; omega)
          injection e1 with e1
          injection e1 with e1 e2
          subst e1 e2
          obtain ⟨k1, hk1⟩ : ∃ k1, k1 = k - 1 := ⟨_, rfl⟩
          rw [← hk1] at t0
          have t1 := (BB1.out.cell (p := ⟨b, off + k1 * 3, none⟩) hb').trans t0
          obtain ⟨tt, htt⟩ : ∃ tt, tt = (frAt l k1).time := ⟨_, rfl⟩
          rw [← htt] at t1
          have hk1i : (k : Int) - 1 = (k1 : Int) := by omega
          have hk1l : (k1 : Int) < (n : Int) := by omega
          have hk1w : IntKind.i64.wrap (k1 : Int) = (k1 : Int) := by rw [IntKind.wrap_i64]; omega
          have HIP : Hid (inPl l k = (!fk && decide (tt ≤ ft))) := by show _ = _; unfold inPl; rw [if_neg hk0, HF.out.1, HF.out.2, htt, hk1]
          clear hk0 hk1 htt t0
          cases fk
          · by_cases hti : ft < tt
            · have HGE : Hid (G = 4) := BAD.out (by rw [HIP.out]; simp; omega)
              go_wp2_with fail
              go_quiet (fail)
              go_wp2
              go_ret
              exact ⟨by rw [HGE.out]; rfl, below_drewN BB1.out _⟩
            · have HGO : Hid (∀ j, j < k + 1 → gerr l j = 0) := GOOD.out (by rw [HIP.out]; simp; omega)
              go_wp2_with fail
              go_quiet (fail)
              go_wp2
              go_roundw
              case rel => exact ⟨k + 1, by omega, by go_num, HGO, K1.out, below_drewN BB1.out _⟩
              case measure => simp [intOf]; omega
          · have HGE : Hid (G = 4) := BAD.out (by rw [HIP.out]; rfl)
            go_wp2_with fail
            go_quiet (fail)
            go_wp2
            go_ret
            exact ⟨by rw [HGE.out]; rfl, below_drewN BB1.out _⟩
      · have HGE : Hid (G = ck) := by
          show _ = _
          have he : gerr l k = ck := by unfold gerr; rw [if_neg (by rw [HCK.out]; exact hc0), HCK.out]
          rw [HG2.out, goN_hit n 0 k (Nat.zero_le _) (by omega) (fun j _ hj => HK.out j hj) (by rw [he]; exact hc0), he]
        go_wp2
        go_ret
        exact ⟨by rw [HGE.out]; rfl, BB1.out⟩
    · have hkl : k = n := by omega
      subst hkl
      have HGE : Hid (G = 0) := by show _ = _; rw [HG2.out]; exact goN_all _ _ (fun j _ hj => HK.out j (by omega))
      go_wp2
      go_ret
      exact ⟨by rw [HGE.out]; rfl, HB.out⟩

set_option maxHeartbeats 2000000 in
theorem sizeOf_any (S : Nat → Prop) (v : Value) (l : List Fr) (w : World) (hv : FrsIn S w v l) (hG : gchk l = 0) :
    Calls Try.prog 99 #[.agg #[v]] w fun e w' => e = .returned (.int .i64 (szG l)) ∧ Below w.heap.size w w' := by
  obtain ⟨ao, c, hva, h1, h2, hc⟩ := hv
  have HC : Hid (∀ k, k < l.length → ∃ b off, ao = some ⟨b, off, none⟩ ∧ b < w.heap.size ∧ S b ∧ At3In S w b (off + k * 3) (l[k]?.getD Fr.zero)) := hc
  obtain ⟨n, hn⟩ : ∃ n, n = l.length := ⟨_, rfl⟩
  have HN : Hid (n = l.length) := hn
  obtain ⟨Z, hZ⟩ : ∃ Z, Z = szG l := ⟨_, rfl⟩
  have HZ2 : Hid (Z = szG l) := hZ
  have hg := gchk_zero.1 hG
  rw [← hn] at hva h1
  have hn6 : n ≤ 6 := by rw [hn]; exact hg.2.1
  have HFR : Hid (∀ k, k < n → (frAt l k).chk = 0) := fun k hk => (hg.2.2 k (by rw [← HN.out]; exact hk)).1
  have HLE : Hid (∀ k, k ≤ n → szG (l.take k) ≤ k * 32) := fun k hk => szG_le (fun j hj => fr_szP (hg.2.2 j hj).1) k (by rw [← HN.out]; exact hk)
  rw [← hZ]
  clear hc hn hZ hG hg
  subst hva
  go_enter Try.func99, Try.ntmps99
  go_wp2_with fail
  go_loopw [3, 4] (fun s i wr => ∃ (k z : Nat), k ≤ n ∧ i = .int .i64 k ∧ s = .int .i64 z ∧ Hid (z = szG (l.take k)) ∧ Hid (Blk wr w.heap.size #[.slice ao n c] 25) ∧ Hid (Below w.heap.size w wr))
    (fun _ i _ => n - (intOf i).toNat)
  case atStart => exact ⟨0, 0, Nat.zero_le _, rfl, rfl, (show 0 = szG (l.take 0) from rfl), Blk.new w _ _, (Below.refl _ w).alloc (Nat.le_refl _) _⟩
  case round =>
    obtain ⟨k, z, hk, rfl, rfl, HZK, KB, HB⟩ := hrel
    have b0 := KB.out.one
    by_cases hlt : k < n
    · obtain ⟨b, off, hao, hb, _, pv, c0, c1, c2, hp⟩ := HC.out k (by rw [← HN.out]; exact hlt)
      subst hao
      have d2 := (HB.out.cell (p := ⟨b, off + k * 3 + 2, none⟩) hb).trans c2
      obtain ⟨f, hf⟩ : ∃ f, f = frAt l k := ⟨_, rfl⟩
      rw [show (l[k]?.getD Fr.zero) = f from hf.symm] at hp
      obtain ⟨po, pc, ep, hpc⟩ := (hp.1.below HB.out).parts
      obtain ⟨pn, hpn⟩ : ∃ pn, pn = f.parts.length := ⟨_, rfl⟩
      have HPC : Hid (∀ j, j < f.parts.length → ∃ b off, po = some ⟨b, off, none⟩ ∧ b < wr.heap.size ∧ wr.cell? ⟨b, off + j, none⟩ = some (.string (f.parts[j]?.getD ByteArray.empty))) := hpc
      have HPN : Hid (pn = f.parts.length) := hpn
      rw [← hpn] at ep
      subst ep
      have hlti : (k : Int) < (n : Int) := by omega
      have hfz := HFR.out k hlt
      rw [← hf] at hfz
      have hp4 : pn ≤ 4 := by rw [hpn]; exact (chkF_zero hfz).2.2.2.1
      have hp8 : ∀ j, j < pn → (f.parts[j]?.getD ByteArray.empty).size ≤ 8 := fun j hj => by
        rw [List.getElem?_eq_getElem (by omega), Option.getD_some]
        exact (chkF_zero hfz).2.2.2.2 _ (List.getElem_mem _)
      have HP8 : Hid (∀ j, j < pn → (f.parts[j]?.getD ByteArray.empty).size ≤ 8) := hp8
      have hz := HLE.out k hk
      rw [← HZK.out] at hz
      have HSU : Hid (szG (l.take (k + 1)) = z + szP f.parts) := by show _ = _; rw [szG_take l k (by rw [← HN.out]; exact hlt), ← HZK.out, hf]
      clear c0 c1 c2 hp hpc hpn hfz hp8 hf
      go_wp2_with fail
      go_loopw [3, 5] (fun s i wi => ∃ (j y : Nat), j ≤ pn ∧ i = .int .i64 j ∧ s = .int .i64 y ∧ Hid (y = z + szP (f.parts.take j)) ∧ Hid (y ≤ z + j * 8) ∧ wr = wi)
        (fun _ i _ => pn - (intOf i).toNat)
      case atStart => exact ⟨0, z, Nat.zero_le _, rfl, rfl, (show z = z + szP (f.parts.take 0) from rfl), (show _ ≤ _ from Nat.le_refl _), rfl⟩
      case round =>
        obtain ⟨j, y, hj, rfl, rfl, HY, HYL, rfl⟩ := hrel
        by_cases hjl : j < pn
        · obtain ⟨b2, off2, hpo, hb2, hct⟩ := HPC.out j (by rw [← HPN.out]; exact hjl)
          obtain ⟨s, hs⟩ : ∃ s, s = f.parts[j]?.getD ByteArray.empty := ⟨_, rfl⟩
          have h8 := HP8.out j hjl
          have HNY : Hid (y + s.size = z + szP (f.parts.take (j + 1))) := by show _ = _; rw [szP_take f.parts j (by rw [← HPN.out]; exact hjl), HY.out, ← hs]; omega
          rw [← hs] at hct h8
          subst hpo
          have hji : (j : Int) < (pn : Int) := by omega
          have hyl := HYL.out
          clear hs
          go_wp2_with fail
          go_roundw
          case rel => exact ⟨j + 1, y + s.size, by omega, by go_num, by go_num, HNY, (show _ ≤ _ by omega), by first | rfl | trivial⟩
          case measure => simp [intOf]; omega
        · have hjn : j = pn := by omega
          subst hjn
          have hyz := HY.out
          rw [HPN.out, List.take_length, ← HSU.out] at hyz
          have HY2 : Hid (y = szG (l.take (k + 1))) := hyz
          clear hyz
          go_wp2_with fail
          go_roundw
          case rel => exact ⟨k + 1, y, by omega, by go_num, rfl, HY2, KB, HB⟩
          case measure => simp [intOf]; omega
    · have hkl : k = n := by omega
      subst hkl
      have HE : Hid (Z = z) := by show _ = _; rw [HZ2.out, HZK.out, HN.out, List.take_length]
      go_wp2
      go_ret
      exact ⟨by rw [HE.out]; rfl, HB.out⟩

set_option maxHeartbeats 1600000 in
theorem sameGroups_any (S S' : Nat → Prop) (u v : Value) (l m : List (List Fr)) (w : World) (hu : GrsIn S w u l) (hv : GrsIn S' w v m) :
    Calls Try.prog 56 #[u, v] w fun e w' => e = .returned (.bool (sameGs l m)) ∧ Below w.heap.size w w' := by
  obtain ⟨ao, c, rfl, hl1, hl2, hc⟩ := hu
  obtain ⟨bo, d, rfl, hm1, hm2, hd⟩ := hv
  by_cases hlm : l.length = m.length
  · have HC : Hid (∀ k, k < l.length → ∃ b off, ao = some ⟨b, off, none⟩ ∧ b < w.heap.size ∧ S b ∧ ∃ sv, w.cell? ⟨b, off + k, none⟩ = some sv ∧ FrsIn S w sv (l[k]?.getD [])) := hc
    have HD : Hid (∀ k, k < m.length → ∃ b off, bo = some ⟨b, off, none⟩ ∧ b < w.heap.size ∧ S' b ∧ ∃ sv, w.cell? ⟨b, off + k, none⟩ = some sv ∧ FrsIn S' w sv (m[k]?.getD [])) := hd
    obtain ⟨n, hn⟩ : ∃ n, n = l.length := ⟨_, rfl⟩
    have HN : Hid (n = l.length) := hn
    have HM : Hid (n = m.length) := hn.trans hlm
    rw [← hlm, ← hn]
    rw [← hlm] at hm1
    rw [← hn] at hl1 hm1
    clear hc hd hn hlm
    go_enter Try.func56, Try.ntmps56
    go_wp2
    go_loopw [5] (fun i wr => ∃ k : Nat, k ≤ n ∧ i = .int .i64 k ∧ Hid (∀ j, j < k → (l[j]?.getD []) = (m[j]?.getD [])) ∧ Hid (Below w.heap.size w wr))
      (fun i _ => n - (intOf i).toNat)
    case atStart => exact ⟨0, Nat.zero_le _, rfl, (show ∀ j, j < 0 → _ from fun j hj => absurd hj (Nat.not_lt_zero _)), Below.refl _ _⟩
    case round =>
      obtain ⟨k, hk, rfl, HK, HB⟩ := hrel
      by_cases hlt : k < n
      · obtain ⟨b, off, rfl, hb, _, sv, c0, hs⟩ := HC.out k (by rw [← HN.out]; exact hlt)
        obtain ⟨b2, off2, rfl, hb2, _, sv2, d0, hs2⟩ := HD.out k (by rw [← HM.out]; exact hlt)
        obtain ⟨x, hx⟩ : ∃ x, x = l[k]?.getD [] := ⟨_, rfl⟩
        obtain ⟨y, hy⟩ : ∃ y, y = m[k]?.getD [] := ⟨_, rfl⟩
        rw [← hx] at hs
        rw [← hy] at hs2
        have HX : Hid (x = l[k]?.getD []) := hx
        have HY : Hid (y = m[k]?.getD []) := hy
        have c1 := (HB.out.cell (p := ⟨b, off + k, none⟩) hb).trans c0
        have d1 := (HB.out.cell (p := ⟨b2, off2 + k, none⟩) hb2).trans d0
        obtain ⟨a1, a2, rfl, _, hxl⟩ := hs.len
        obtain ⟨b3, b4, rfl, _, _⟩ := hs2.len
        have f1 := (hs.below HB.out).frs
        have f2 := (hs2.below HB.out).frs
        obtain ⟨t, ht⟩ : ∃ t, t = sameFs x y := ⟨_, rfl⟩
        have HT : Hid (t = sameFs x y) := ht
        have cF : ∀ d os, Calls Try.prog 15 #[.slice a1 x.length a2, .slice b3 y.length b4] (grow (redrawn wr d) os) fun e w'' => e = .returned (.bool t) ∧ ∃ p : Regrown, w'' = grow (redrawn wr p.d) p.os := fun d os =>
          Calls.regrown_of (by
            rw [ht]
            exact sameFrames_any _ _ _ _ _ (f1.below (below_regrown wr d os)) (f2.below (below_regrown wr d os)) hxl)
        have z0 := cell_regrown c1
        have q0 := cell_regrown d1
        have hlti : (k : Int) < (n : Int) := by omega
        clear hx hy ht c0 c1 d0 d1 hs hs2 f1 f2
        go_wp2
        refine wp_region_quiet_below (by kernel_rfl) (by kernel_rfl) ?_
        repeat (quiet_step (exact cF _ _))
        refine wpQuiet_nil ?_
        intro _ hw'
        obtain ⟨⟨dq, osq⟩, hw''⟩ := hw'
        subst hw''
        have bR := below_regrown wr dq osq
        obtain ⟨V, hV⟩ : ∃ V, V = grow (redrawn wr dq) osq := ⟨_, rfl⟩
        rw [← hV] at bR
        have bV : Hid (Below w.heap.size w V) := HB.out.trans (bR.mono HB.out.size)
        rw [← hV]
        clear hV bR cF q0 z0
        cases t
        · go_wp2
          go_ret
          exact ⟨by rw [sameGs_at (k := k) (fun e => by rw [← HX.out, ← HY.out] at e; have := HT.out; rw [e] at this; simp [sameFs] at this)]; rfl, bV.out⟩
        · go_wp2
          go_roundw
          case rel =>
            refine ⟨k + 1, by omega, by go_num, (show ∀ j, j < k + 1 → _ from fun j hj => ?_), bV.out⟩
            by_cases e : j = k
            · subst e
              rw [← HX.out, ← HY.out]; exact of_decide_eq_true HT.out.symm
            · exact HK.out j (by omega)
          case measure => simp [intOf]; omega
      · have hkl : k = n := by omega
        subst hkl
        go_wp2
        go_ret
        exact ⟨by rw [sameGs_ext (HN.out.symm.trans HM.out) (fun j hj => HK.out j (by rw [HN.out]; exact hj))]; rfl, HB.out⟩
  · have hlm2 : ((l.length : Int) != (m.length : Int)) = true := by simp; omega
    have HLM : Hid (¬ l.length = m.length) := hlm
    clear hlm
    go_enter Try.func56, Try.ntmps56
    go_wp2
    go_ret
    exact ⟨by rw [sameGs_len HLM.out]; rfl, Below.refl _ _⟩

end Go.Proofs.Ytnpaejknoipicad
