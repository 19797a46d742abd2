/-
 Contracts: frame.checkBuilder, frame.Add.
-/
import Derived.Test.YtnpaejknoipicagGreatMgDeskPaused9
import Derived.Test.YtnpaejknoipicagGreatMgDeskPaused1
import Derived.Test.YtnpaejknoipicagGreatMgDeskPaused4
import Derived.Deep.DeepCutAuto
import Derived.Test.YtnpaejknoipicagGreatMgDeskPaused3
import Derived.Test.YtnpaejknoipicagGreatMgDeskPaused2
namespace Go.Proofs.YtnpaejknoipicagGreat
open Go.RowKit
set_option maxHeartbeats 8000000 in
set_option maxRecDepth 100000 in
theorem send_any (M : Nat) (l t s0 : Int) (f : Fr) (pa : Option Addr) (pc : Nat) (w : World) (hM : Blk w M #[.int .i64 l, .int .i64 t, .int .i64 s0] 150) (hp : StrsIn (fun g => g ≠ M) w (.slice pa f.parts.length pc) f.parts) (hf : f.chk = 0) (hs0 : -3000000 ≤ s0) (hs1 : s0 ≤ 3000000) (hl0 : 0 ≤ l) (hl1 : l ≤ 1000000000) :
  Calls Tryz.prog 98 #[.pointer (some ⟨M, 0, none⟩), .agg #[.int .i64 f.time, .bool f.key, .slice pa f.parts.length pc]] w fun e w' => ∃ v, e = .returned v ∧ w'.ownsRow (w.heap.size + 1) 63 6 v f.parts.length (pkCells (pksOf l (f.time + s0) f.key f.parts)) ∧ Blk w' M #[.int .i64 (l + f.parts.length), .int .i64 (f.time + s0), .int .i64 s0] 150 ∧ Kept [M] w w' := by
 obtain ⟨c1, c2, c3, c4, c5⟩ := chkF_zero hf
 obtain ⟨ft, hft⟩ : ∃ x, x = f.time := ⟨_, rfl⟩
 obtain ⟨fk, hfk⟩ : ∃ x, x = f.key := ⟨_, rfl⟩
 obtain ⟨ps, hps⟩ : ∃ x, x = f.parts := ⟨_, rfl⟩
 rw [← hps] at c3 c4 c5 hp
 rw [← hft] at c1 c2
 obtain ⟨n, hn⟩ : ∃ x, x = ps.length := ⟨_, rfl⟩
 rw [← hft, ← hfk, ← hps, ← hn]
 rw [← hn] at c3 c4 hp
 have HN : Hid (n = ps.length) := hn
 have HP8 : Hid (∀ s ∈ ps, s.size ≤ 8) := c5
 obtain ⟨T, hT⟩ : ∃ x, x = ft + s0 := ⟨_, rfl⟩
 have HT : Hid (T = ft + s0) := hT
 obtain ⟨base, hbase⟩ : ∃ x, x = w.heap.size + 1 := ⟨_, rfl⟩
 rw [← hT, ← hbase]
 obtain ⟨W0, hW0⟩ : ∃ W0, W0 = w.alloc (.cells #[.int .i64 ft, .bool fk, .slice pa n pc] 98) := ⟨_, rfl⟩
 have hMl0 := hM.lt
 have hM0 : Blk W0 M #[.int .i64 l, .int .i64 t, .int .i64 s0] 150 := by rw [hW0]; exact hM.alloc _
 have hF0 : Blk W0 w.heap.size #[.int .i64 ft, .bool fk, .slice pa n pc] 98 := Blk.newE hW0
 have hP0 : StrsIn (fun g => g ≠ M) W0 (.slice pa n pc) ps := by rw [hW0]; exact hp.alloc _
 have HS0 : Hid (StayK [M] W0 (fun U => Blk U w.heap.size #[.int .i64 ft, .bool fk, .slice pa n pc] 98 ∧ StrsIn (fun g => g ≠ M) U (.slice pa n pc) ps)) := (hF0.stayK (by simp; omega)).and (hP0.stayK (fun g hg => by simpa using hg))
 have HZ0 : Hid (W0.heap.size = base ∧ Below w.heap.size w W0) := ⟨by rw [hW0, hbase]; simp, by rw [hW0]; exact (Below.refl _ w).alloc (Nat.le_refl _) _⟩
 have HB0 : Hid (base = w.heap.size + 1) := hbase
 clear hft hfk hps hn hM hp hF0 hP0 hf c5 hT hbase
 obtain ⟨j0, j1, j2⟩ := HS0.out.now.1.three
 go_enter Tryz.func98, Tryz.ntmps98
 go_wp2_with fail
 rw [← hW0]
 refine (timeOf_any M l t s0 ft fk pa n pc W0 hM0 c1 c2 hs0 hs1).mono ?_
 rw [← HT.out]
 rintro e w1 ⟨rfl, b1⟩
 have hM1 := hM0.below b1 hM0.lt
 have fM := hM1.free 1
 obtain ⟨W2, hW2⟩ : ∃ W2, W2 = w1.setCell ⟨M, 1, none⟩ (.int .i64 T) := ⟨_, rfl⟩
 have HM2 : Hid (Blk W2 M #[.int .i64 (l + (0 : Nat)), .int .i64 T, .int .i64 s0] 150) := by
  have := hM1.set 1 (.int .i64 T)
  rw [hW2]; simpa [Hid] using this
 have HK2 : Hid (Kept [M] W0 W2) := by rw [hW2]; exact ((Kept.refl [M] W0).below b1).setCell (p := ⟨M, 1, none⟩) (by simp) _
 obtain ⟨q0, q1, q2⟩ := hM1.three
 have HS2 := StayK.goK HS0 HK2.out
 obtain ⟨p0, p1, p2⟩ := HS2.out.now.1.three
 clear b1 hM0 hM1 hW0 j0 j1 j2
 go_upto_region 3 with fail
 rw [← hW2]
 clear hW2 q0 q1 q2 fM
 go_wp2_with fail
 clear p0 p1 p2
 go_loopw [5, 18] (fun v i wr => ∃ k : Nat, k ≤ n ∧ i = .int .i64 k ∧ Hid (Blk wr M #[.int .i64 (l + k), .int .i64 T, .int .i64 s0] 150) ∧ Hid (wr.ownsRow base 63 6 v k (pkCells (pksK l T fk ps k))) ∧ Hid (Kept [M] W0 wr))
  (fun _ i _ => n - (intOf i).toNat)
 case atStart => exact ⟨0, Nat.zero_le _, rfl, HM2.out, World.ownsRow_nil _ _ _ _, HK2.out⟩
 case round =>
  obtain ⟨k, hk, rfl, HM, HO, HK⟩ := hrel
  clear HM2 HK2 HS2
  have HSr := StayK.goK HS0 HK.out
  by_cases hlt : k < n
  ·have hlti : (k : Int) < (n : Int) := by omega
   obtain ⟨po, pcc, ep, hpc⟩ := HSr.out.now.2.1.parts
   rw [← HN.out] at ep
   injection ep with ep1 ep2 ep3
   clear ep2
   subst ep1 ep3
   obtain ⟨b, off, e1, hb, hcx⟩ := hpc k (by rw [← HN.out]; exact hlt)
   obtain ⟨x, hx⟩ : ∃ x, x = ps[k]?.getD ByteArray.empty := ⟨_, rfl⟩
   rw [← hx] at hcx
   have hx8 : x.size ≤ 8 := by
    rw [hx, List.getElem?_eq_getElem (by rw [← HN.out]; exact hlt), Option.getD_some]
    exact HP8.out _ (List.getElem_mem _)
   obtain ⟨lk, hlk⟩ : ∃ y, y = l + (k : Int) + 1 := ⟨_, rfl⟩
   obtain ⟨sq, hsq⟩ : ∃ y, y = lk % 65536 := ⟨_, rfl⟩
   obtain ⟨z, hz⟩ : ∃ y, y = ((k : Int) == 0) := ⟨_, rfl⟩
   obtain ⟨en, hen⟩ : ∃ y, y = ((k : Int) == (n : Int) - 1) := ⟨_, rfl⟩
   obtain ⟨PL, hPL⟩ : ∃ y, y = pksK l T fk ps k := ⟨_, rfl⟩
   have HPK : Hid (pksK l T fk ps (k + 1) = PL ++ [⟨sq, T, z, en, z && fk, x⟩]) := by
    show _ = _
    rw [pksK_succ, ← hPL]
    unfold pkAt
    rw [← hx, hsq, hlk, hz, hen, ← HN.out, show l + (k : Int) + 1 = l + 1 + k by omega]
    have e1 : (k == 0) = ((k : Int) == 0) := by rw [Bool.eq_iff_iff]; simp
    have e2 : (k == n - 1) = ((k : Int) == (n : Int) - 1) := by rw [Bool.eq_iff_iff]; simp; omega
    rw [e1, e2]
   have HLK : Hid (lk = l + ((k + 1 : Nat) : Int)) := by show _ = _; rw [hlk]; omega
   have HO' := HO.out
   rw [← hPL] at HO'
   obtain ⟨m0, m1, m2⟩ := HM.out.three
   have fM := HM.out.free 0
   obtain ⟨WR, hWR⟩ : ∃ W, W = wr.setCell ⟨M, 0, none⟩ (.int .i64 lk) := ⟨_, rfl⟩
   have KMR : Hid (Blk WR M #[.int .i64 lk, .int .i64 T, .int .i64 s0] 150) := by
    have := HM.out.set 0 (.int .i64 lk)
    rw [hWR]; simpa [Hid] using this
   have HKR : Hid (Kept [M] W0 WR) := by rw [hWR]; exact HK.out.setCell (p := ⟨M, 0, none⟩) (by simp) _
   have hbw := HB0.out
   have HOW : Hid (WR.ownsRow base 63 6 u5 k (pkCells PL)) := by rw [hWR]; exact ownsRow_setCell_below HO' (by show M < base; omega) _
   have hWRs : base ≤ WR.heap.size := by have := HKR.out.size; have := HZ0.out.1; omega
   obtain ⟨p0, p1, p2⟩ := (StayK.goK HS0 HKR.out).out.now.1.three
   obtain ⟨q0, q1, q2⟩ := KMR.out.three
   have hMl : M < WR.heap.size := KMR.out.lt
   have hFl : w.heap.size < WR.heap.size := (StayK.goK HS0 HKR.out).out.now.1.lt
   have hMu : some M ≠ u5.ownBlock := fun e => by have := (HOW.out.lt M e.symm).1; omega
   have hFu : some w.heap.size ≠ u5.ownBlock := fun e => by have := (HOW.out.lt _ e.symm).1; omega
   have hlks : l + (k : Int) + 1 = lk := hlk.symm
   subst e1
   clear hpc hb hx hPL HO' HO HM hlk
   go_upto_region 7 with fail
   rw [← hWR]
   clear hWR m0 m1 m2 fM hcx hlks
   have hrem : lk.tmod 65536 = sq := by
    rw [hsq, Int.tmod_eq_emod_of_nonneg]
    have := HLK.out; omega
   have hsub : IntKind.i64.wrap ((n : Int) - 1) = (n : Int) - 1 := by rw [IntKind.wrap_i64]; omega
   have hz' : ((k : Int) == 0) = z := hz.symm
   have hen' : ((k : Int) == (n : Int) - 1) = en := hen.symm
   clear hz hen hsq
   have hz := hz'
   have hen := hen'
   clear hz' hen'
   cases z
   case false =>
    refine region_chainG (by kernel_rfl) (by kernel_rfl) [.quiet (u5) 5, .quiet (.pointer (some ⟨M, 0, none⟩)) 5, .quiet (.pointer (some ⟨M, 0, none⟩)) 5, .quiet (.pointer (some ⟨M, 0, none⟩)) 5, .quiet (.pointer (some ⟨M, 0, none⟩)) 5, .quiet (.int .i64 lk) 5, .quiet (.int .i64 sq) 5, .quiet (.pointer (some ⟨M, 0, none⟩)) 5, .quiet (.pointer (some ⟨M, 0, none⟩)) 5, .quiet (.pointer (some ⟨M, 0, none⟩)) 5, .quiet (.pointer (some ⟨M, 1, none⟩)) 5, .quiet (.int .i64 T) 5, .quiet (.int .i64 k) 5, .quiet (.bool false) 5, .quiet (.int .i64 k) 5, .quiet (.pointer (some ⟨w.heap.size, 2, none⟩)) 5, .quiet (.slice (some ⟨b, off, none⟩) n pc) 5, .quiet (.int .i64 n) 5, .quiet (.int .i64 (n - 1)) 5, .quiet (.bool en) 5, .quiet (.int .i64 k) 5, .quiet (.bool false) 5, .quiet (.bool false) 5, .quiet (undef) 5, .quiet (undef) 5, .quiet (.bool false) 5, .quiet (.string x) 5, .step 0, .step 1, .step 2, .step 3, .step 4] [27, 28, 29, 30, 31] (by kernel_rfl)
     (fun s r w' => match s with
      | 0 => Below WR.heap.size WR w'
      | 1 => r 0 = .string x ∧ Below WR.heap.size WR w'
      | 2 => r 1 = (Pk.val ⟨sq, T, false, en, false, x⟩) ∧ Below WR.heap.size WR w'
      | 3 => ∃ V, Below WR.heap.size WR V ∧ w' = V.alloc (.cells (Pk.cells ⟨sq, T, false, en, false, x⟩) 63) ∧ r 2 = .slice (some ⟨V.heap.size, 0, none⟩) 1 1
      | 4 => ∃ V, Below WR.heap.size WR V ∧ w'.ownsRow base 63 6 (r 3) (k + 1) (pkCells (PL ++ [⟨sq, T, false, en, false, x⟩])) ∧ (V.alloc (.cells (Pk.cells ⟨sq, T, false, en, false, x⟩) 63)).grownBy w' u5.ownBlock
      | _ => ∃ V, Below WR.heap.size WR V ∧ w'.ownsRow base 63 6 (r 4) (k + 1) (pkCells (PL ++ [⟨sq, T, false, en, false, x⟩])) ∧ (V.alloc (.cells (Pk.cells ⟨sq, T, false, en, false, x⟩) 63)).grownBy w' u5.ownBlock
      ) ((Below.refl _ WR).drew) ?step ?fin
    case step =>
     intro i o ho a' w' s r hI hfree hvals
     have hcell : ∀ a : Addr, a.block < WR.heap.size → some a.block ≠ u5.ownBlock → w'.cell? a = WR.cell? a := fun a ha hne => by
      match s, hI with
      | 0, hI => exact Below.cell hI ha
      | 1, ⟨_, hI⟩ => exact Below.cell hI ha
      | 2, ⟨_, hI⟩ => exact Below.cell hI ha
      | 3, ⟨V, hI, hw, _⟩ => rw [hw]; exact Below.cell (hI.alloc hI.size _) ha
      | 4, ⟨V, hI, _, hg⟩ => exact (grown_cell hg (by simp; have := hI.size; omega) hne).trans (Below.cell (hI.alloc hI.size _) ha)
      | n + 5, ⟨V, hI, _, hg⟩ => exact (grown_cell hg (by simp; have := hI.size; omega) hne).trans (Below.cell (hI.alloc hI.size _) ha)
     have y0 := (hcell ⟨M, 0, none⟩ hMl hMu).trans q0
     have y1 := (hcell ⟨M, 1, none⟩ hMl hMu).trans q1
     have z1 := (hcell ⟨w.heap.size, 1, none⟩ hFl hFu).trans p1
     have z2 := (hcell ⟨w.heap.size, 2, none⟩ hFl hFu).trans p2
     clear hcell
     match i, ho with
     | 0, ho =>
      simp at ho; subst ho
      have e5 : a'.eval (.tmp 5) = u5 := (hfree 5 (by kernel_rfl)).trans rfl
      show s ≤ 5 → _
      intro hs
      refine .inl ⟨rfl, ?_⟩
      generalize a'.eval = ρ at *
      simp [execOp, go_sem, e5]
     | 1, ho =>
      simp at ho; subst ho
      have e0 : a'.eval (.tmp 0) = .pointer (some ⟨M, 0, none⟩) := (hfree 0 (by kernel_rfl)).trans rfl
      show s ≤ 5 → _
      intro hs
      refine .inl ⟨rfl, ?_⟩
      generalize a'.eval = ρ at *
      simp [execOp, go_sem, e0]
     | 2, ho =>
      simp at ho; subst ho
      have e33 : a'.eval (.tmp 33) = .pointer (some ⟨M, 0, none⟩) := hvals 1 _ _ (by kernel_rfl) rfl rfl
      show s ≤ 5 → _
      intro hs
      refine .inl ⟨rfl, ?_⟩
      generalize a'.eval = ρ at *
      simp [execOp, go_sem, e33]
     | 3, ho =>
      simp at ho; subst ho
      have e34 : a'.eval (.tmp 34) = .pointer (some ⟨M, 0, none⟩) := hvals 2 _ _ (by kernel_rfl) rfl rfl
      show s ≤ 5 → _
      intro hs
      refine .inl ⟨rfl, ?_⟩
      generalize a'.eval = ρ at *
      simp [execOp, go_sem, e34]
     | 4, ho =>
      simp at ho; subst ho
      have e35 : a'.eval (.tmp 35) = .pointer (some ⟨M, 0, none⟩) := hvals 3 _ _ (by kernel_rfl) rfl rfl
      show s ≤ 5 → _
      intro hs
      refine .inl ⟨rfl, ?_⟩
      generalize a'.eval = ρ at *
      simp [execOp, go_sem, e35]
     | 5, ho =>
      simp at ho; subst ho
      have e36 : a'.eval (.tmp 36) = .pointer (some ⟨M, 0, none⟩) := hvals 4 _ _ (by kernel_rfl) rfl rfl
      show s ≤ 5 → _
      intro hs
      refine .inl ⟨rfl, ?_⟩
      generalize a'.eval = ρ at *
      simp [execOp, go_sem, e36, y0]
     | 6, ho =>
      simp at ho; subst ho
      have e37 : a'.eval (.tmp 37) = .int .i64 lk := hvals 5 _ _ (by kernel_rfl) rfl rfl
      have ec0 : a'.eval (.const (.int .i64 65536)) = .int .i64 65536 := rfl
      show s ≤ 5 → _
      intro hs
      refine .inl ⟨rfl, ?_⟩
      generalize a'.eval = ρ at *
      simp [execOp, go_sem, e37, ec0, hrem]
     | 7, ho =>
      simp at ho; subst ho
      have e0 : a'.eval (.tmp 0) = .pointer (some ⟨M, 0, none⟩) := (hfree 0 (by kernel_rfl)).trans rfl
      show s ≤ 5 → _
      intro hs
      refine .inl ⟨rfl, ?_⟩
      generalize a'.eval = ρ at *
      simp [execOp, go_sem, e0]
     | 8, ho =>
      simp at ho; subst ho
      have e39 : a'.eval (.tmp 39) = .pointer (some ⟨M, 0, none⟩) := hvals 7 _ _ (by kernel_rfl) rfl rfl
      show s ≤ 5 → _
      intro hs
      refine .inl ⟨rfl, ?_⟩
      generalize a'.eval = ρ at *
      simp [execOp, go_sem, e39]
     | 9, ho =>
      simp at ho; subst ho
      have e40 : a'.eval (.tmp 40) = .pointer (some ⟨M, 0, none⟩) := hvals 8 _ _ (by kernel_rfl) rfl rfl
      show s ≤ 5 → _
      intro hs
      refine .inl ⟨rfl, ?_⟩
      generalize a'.eval = ρ at *
      simp [execOp, go_sem, e40]
     | 10, ho =>
      simp at ho; subst ho
      have e41 : a'.eval (.tmp 41) = .pointer (some ⟨M, 0, none⟩) := hvals 9 _ _ (by kernel_rfl) rfl rfl
      show s ≤ 5 → _
      intro hs
      refine .inl ⟨rfl, ?_⟩
      generalize a'.eval = ρ at *
      simp [execOp, go_sem, e41]
     | 11, ho =>
      simp at ho; subst ho
      have e42 : a'.eval (.tmp 42) = .pointer (some ⟨M, 1, none⟩) := hvals 10 _ _ (by kernel_rfl) rfl rfl
      show s ≤ 5 → _
      intro hs
      refine .inl ⟨rfl, ?_⟩
      generalize a'.eval = ρ at *
      simp [execOp, go_sem, e42, y1]
     | 12, ho =>
      simp at ho; subst ho
      have e6 : a'.eval (.tmp 6) = .int .i64 k := (hfree 6 (by kernel_rfl)).trans rfl
      show s ≤ 5 → _
      intro hs
      refine .inl ⟨rfl, ?_⟩
      generalize a'.eval = ρ at *
      simp [execOp, go_sem, e6]
     | 13, ho =>
      simp at ho; subst ho
      have e44 : a'.eval (.tmp 44) = .int .i64 k := hvals 12 _ _ (by kernel_rfl) rfl rfl
      have ec0 : a'.eval (.const (.int .i64 0)) = .int .i64 0 := rfl
      show s ≤ 5 → _
      intro hs
      refine .inl ⟨rfl, ?_⟩
      generalize a'.eval = ρ at *
      simp [execOp, go_sem, e44, ec0, hz]
     | 14, ho =>
      simp at ho; subst ho
      have e6 : a'.eval (.tmp 6) = .int .i64 k := (hfree 6 (by kernel_rfl)).trans rfl
      show s ≤ 5 → _
      intro hs
      refine .inl ⟨rfl, ?_⟩
      generalize a'.eval = ρ at *
      simp [execOp, go_sem, e6]
     | 15, ho =>
      simp at ho; subst ho
      have e3 : a'.eval (.tmp 3) = .pointer (some ⟨w.heap.size, 0, none⟩) := (hfree 3 (by kernel_rfl)).trans rfl
      show s ≤ 5 → _
      intro hs
      refine .inl ⟨rfl, ?_⟩
      generalize a'.eval = ρ at *
      simp [execOp, go_sem, e3]
     | 16, ho =>
      simp at ho; subst ho
      have e47 : a'.eval (.tmp 47) = .pointer (some ⟨w.heap.size, 2, none⟩) := hvals 15 _ _ (by kernel_rfl) rfl rfl
      show s ≤ 5 → _
      intro hs
      refine .inl ⟨rfl, ?_⟩
      generalize a'.eval = ρ at *
      simp [execOp, go_sem, e47, z2]
     | 17, ho =>
      simp at ho; subst ho
      have e48 : a'.eval (.tmp 48) = .slice (some ⟨b, off, none⟩) n pc := hvals 16 _ _ (by kernel_rfl) rfl rfl
      show s ≤ 5 → _
      intro hs
      refine .inl ⟨rfl, ?_⟩
      generalize a'.eval = ρ at *
      simp [go_sem, e48]
     | 18, ho =>
      simp at ho; subst ho
      have e49 : a'.eval (.tmp 49) = .int .i64 n := hvals 17 _ _ (by kernel_rfl) rfl rfl
      have ec0 : a'.eval (.const (.int .i64 1)) = .int .i64 1 := rfl
      show s ≤ 5 → _
      intro hs
      refine .inl ⟨rfl, ?_⟩
      generalize a'.eval = ρ at *
      simp [execOp, go_sem, e49, ec0, hsub]
     | 19, ho =>
      simp at ho; subst ho
      have e46 : a'.eval (.tmp 46) = .int .i64 k := hvals 14 _ _ (by kernel_rfl) rfl rfl
      have e50 : a'.eval (.tmp 50) = .int .i64 (n - 1) := hvals 18 _ _ (by kernel_rfl) rfl rfl
      show s ≤ 5 → _
      intro hs
      refine .inl ⟨rfl, ?_⟩
      generalize a'.eval = ρ at *
      simp [execOp, go_sem, e46, e50, hen]
     | 20, ho =>
      simp at ho; subst ho
      have e6 : a'.eval (.tmp 6) = .int .i64 k := (hfree 6 (by kernel_rfl)).trans rfl
      show s ≤ 5 → _
      intro hs
      refine .inl ⟨rfl, ?_⟩
      generalize a'.eval = ρ at *
      simp [execOp, go_sem, e6]
     | 21, ho =>
      simp at ho; subst ho
      have e52 : a'.eval (.tmp 52) = .int .i64 k := hvals 20 _ _ (by kernel_rfl) rfl rfl
      have ec0 : a'.eval (.const (.int .i64 0)) = .int .i64 0 := rfl
      show s ≤ 5 → _
      intro hs
      refine .inl ⟨rfl, ?_⟩
      generalize a'.eval = ρ at *
      simp [execOp, go_sem, e52, ec0, hz]
     | 22, ho =>
      simp at ho; subst ho
      have e53 : a'.eval (.tmp 53) = .bool false := hvals 21 _ _ (by kernel_rfl) rfl rfl
      show s ≤ 5 → _
      intro hs
      refine .inl ⟨rfl, ?_⟩
      generalize a'.eval = ρ at *
      simp [execOp, go_sem, e53]
     | 23, ho =>
      simp at ho; subst ho
      have e3 : a'.eval (.tmp 3) = .pointer (some ⟨w.heap.size, 0, none⟩) := (hfree 3 (by kernel_rfl)).trans rfl
      show s ≤ 5 → _
      intro hs
      have hg : a'.eval (.tmp 54) = .bool false := hvals 22 _ _ (by kernel_rfl) rfl rfl
      have hy := tmps_of hg
      exact .inr ⟨by simp [Region.wanted, yielded, hy], rfl⟩
     | 24, ho =>
      simp at ho; subst ho
      have e55 : a'.eval (.tmp 55) = undef := hvals 23 _ _ (by kernel_rfl) rfl rfl
      show s ≤ 5 → _
      intro hs
      have hg : a'.eval (.tmp 54) = .bool false := hvals 22 _ _ (by kernel_rfl) rfl rfl
      have hy := tmps_of hg
      exact .inr ⟨by simp [Region.wanted, yielded, hy], rfl⟩
     | 25, ho =>
      simp at ho; subst ho
      have e54 : a'.eval (.tmp 54) = .bool false := hvals 22 _ _ (by kernel_rfl) rfl rfl
      have e56 : a'.eval (.tmp 56) = undef := hvals 24 _ _ (by kernel_rfl) rfl rfl
      have ec0 : a'.eval (.const (.bool false)) = .bool false := rfl
      show s ≤ 5 → _
      intro hs
      refine .inl ⟨rfl, ?_⟩
      generalize a'.eval = ρ at *
      simp [execOp, go_sem, e54, e56, ec0]
     | 26, ho =>
      simp at ho; subst ho
      have e7 : a'.eval (.tmp 7) = .string x := (hfree 7 (by kernel_rfl)).trans rfl
      show s ≤ 5 → _
      intro hs
      refine .inl ⟨rfl, ?_⟩
      generalize a'.eval = ρ at *
      simp [execOp, go_sem, e7]
     | 27, ho =>
      simp at ho; subst ho
      have e58 : a'.eval (.tmp 58) = .string x := hvals 26 _ _ (by kernel_rfl) rfl rfl
      show s = 0 → _ ∧ Oper.wp _ _ _ _ _ _
      intro hs
      subst hs
      refine ⟨rfl, ?_⟩
      have ef : a'.eval (.func 120) = .func (.func 120) #[] #[] := rfl
      have hB : Below WR.heap.size WR w' := hI
      refine oper_wp_call (f := 120) (args := #[.string x]) ?_ ?_
      ·generalize a'.eval = ρ at *
       simp [execOp, go_sem, e58, ef]
      ·refine (stringsClone_any x w' hx8).mono ?_
       rintro e w'' ⟨rfl, hb1⟩
       exact ⟨_, rfl, _, rfl, updR_at _ _ _, hB.trans (hb1.mono hB.size)⟩
     | 28, ho =>
      simp at ho; subst ho
      have e38 : a'.eval (.tmp 38) = .int .i64 sq := hvals 6 _ _ (by kernel_rfl) rfl rfl
      have e43 : a'.eval (.tmp 43) = .int .i64 T := hvals 11 _ _ (by kernel_rfl) rfl rfl
      have e45 : a'.eval (.tmp 45) = .bool false := hvals 13 _ _ (by kernel_rfl) rfl rfl
      have e51 : a'.eval (.tmp 51) = .bool en := hvals 19 _ _ (by kernel_rfl) rfl rfl
      have e57 : a'.eval (.tmp 57) = .bool false := hvals 25 _ _ (by kernel_rfl) rfl rfl
      have e59 : a'.eval (.tmp 59) = r 0 := hvals 27 _ _ (by kernel_rfl) rfl rfl
      show s = 1 → _ ∧ Oper.wp _ _ _ _ _ _
      intro hs
      subst hs
      refine ⟨rfl, ?_⟩
      obtain ⟨hr0, hB⟩ := hI
      rw [hr0] at e59
      refine oper_wp_ok (v := Pk.val ⟨sq, T, false, en, false, x⟩) (w' := w') ?_ ⟨_, rfl, updR_at _ _ _, hB⟩
      generalize a'.eval = ρ at *
      simp [execOp, go_sem, e38, e43, e45, e51, e57, e59, Pk.val]
     | 29, ho =>
      simp at ho; subst ho
      have e60 : a'.eval (.tmp 60) = r 1 := hvals 28 _ _ (by kernel_rfl) rfl rfl
      show s = 2 → _ ∧ Oper.wp _ _ _ _ _ _
      intro hs
      subst hs
      refine ⟨rfl, ?_⟩
      obtain ⟨hr1, hB⟩ := hI
      rw [hr1] at e60
      refine oper_wp_ok (v := .slice (some ⟨w'.heap.size, 0, none⟩) 1 1) (w' := w'.alloc (.cells (Pk.cells ⟨sq, T, false, en, false, x⟩) 63)) ?_ ⟨_, rfl, w', hB, rfl, updR_at _ _ _⟩
      generalize a'.eval = ρ at *
      simp [execOp, go_sem, e60, Pk.val, Pk.cells]
     | 30, ho =>
      simp at ho; subst ho
      have e32 : a'.eval (.tmp 32) = u5 := hvals 0 _ _ (by kernel_rfl) rfl rfl
      have e61 : a'.eval (.tmp 61) = r 2 := hvals 29 _ _ (by kernel_rfl) rfl rfl
      show s = 3 → _ ∧ Oper.wp _ _ _ _ _ _
      intro hs
      subst hs
      refine ⟨rfl, ?_⟩
      obtain ⟨V, hB, hw, hr2⟩ := hI
      rw [hr2] at e61
      subst hw
      obtain ⟨v', w2, hrun, g2, g3⟩ := pk_snoc ⟨sq, T, false, en, false, x⟩ (owns_below HOW.out hB (Nat.le_refl _)) (by omega) (by have := hB.size; omega)
      refine oper_wp_ok (v := v') (w' := w2) ?_ ⟨_, rfl, V, hB, ?_, g3⟩
      ·generalize a'.eval = ρ at *
       simp [execOp, resolve, invoke, builtin, e32, e61, hrun, Result.andThen]
      ·rw [updR_at]; exact g2
     | 31, ho =>
      simp at ho; subst ho
      have e62 : a'.eval (.tmp 62) = r 3 := hvals 30 _ _ (by kernel_rfl) rfl rfl
      show s = 4 → _ ∧ Oper.wp _ _ _ _ _ _
      intro hs
      subst hs
      refine ⟨rfl, ?_⟩
      obtain ⟨V, hB, g2, g3⟩ := hI
      refine oper_wp_ok (v := r 3) (w' := w') ?_ ⟨_, rfl, V, hB, ?_, g3⟩
      ·generalize a'.eval = ρ at *
       simp [execOp, go_sem, e62]
      ·rw [updR_at]; exact g2
    case fin =>
     rintro r w7 ⟨V, hB, g2, g3⟩
     simp only [putC, Ck.out, Act.put, List.setIfInBounds_toArray, List.set_cons_succ, List.set_cons_zero]
     have hVs := hB.size
     have hM7 : Blk w7 M #[.int .i64 lk, .int .i64 T, .int .i64 s0] 150 := (g3.block M (by simp; omega) hMu).trans (((KMR.out.below hB KMR.out.lt)).alloc _)
     have h1 : Kept [M] W0 (V.alloc (.cells (Pk.cells ⟨sq, T, false, en, false, x⟩) 63)) := (HKR.out.below hB).alloc _
     have hK7 : Kept [M] W0 w7 := ⟨g3.os.trans h1.os, g3.tape.trans h1.tape, g3.output.trans h1.output, Nat.le_trans h1.size g3.size, fun j hj hn => (g3.block j (Nat.lt_of_lt_of_le hj h1.size) (fun e => by have := (HOW.out.lt j e.symm).1; have := HZ0.out.1; omega)).trans (h1.block j hj hn)⟩
     clear h1
     have HO7 : Hid (w7.ownsRow base 63 6 (r 4) (k + 1) (pkCells (pksK l T fk ps (k + 1)))) := by rw [HPK.out]; exact g2
     have HM7 : Hid (Blk w7 M #[.int .i64 lk, .int .i64 T, .int .i64 s0] 150) := hM7
     have HK7 : Hid (Kept [M] W0 w7) := hK7
     clear hM7 hK7 g2 g3 hB
     go_wp2_with fail
     go_roundw
     case rel => exact ⟨k + 1, by omega, by go_num, by rw [HLK.out] at HM7; exact HM7.out, HO7.out, HK7.out⟩
     case measure => simp [intOf]; omega
   case true =>
    refine region_chainG (by kernel_rfl) (by kernel_rfl) [.quiet (u5) 5, .quiet (.pointer (some ⟨M, 0, none⟩)) 5, .quiet (.pointer (some ⟨M, 0, none⟩)) 5, .quiet (.pointer (some ⟨M, 0, none⟩)) 5, .quiet (.pointer (some ⟨M, 0, none⟩)) 5, .quiet (.int .i64 lk) 5, .quiet (.int .i64 sq) 5, .quiet (.pointer (some ⟨M, 0, none⟩)) 5, .quiet (.pointer (some ⟨M, 0, none⟩)) 5, .quiet (.pointer (some ⟨M, 0, none⟩)) 5, .quiet (.pointer (some ⟨M, 1, none⟩)) 5, .quiet (.int .i64 T) 5, .quiet (.int .i64 k) 5, .quiet (.bool true) 5, .quiet (.int .i64 k) 5, .quiet (.pointer (some ⟨w.heap.size, 2, none⟩)) 5, .quiet (.slice (some ⟨b, off, none⟩) n pc) 5, .quiet (.int .i64 n) 5, .quiet (.int .i64 (n - 1)) 5, .quiet (.bool en) 5, .quiet (.int .i64 k) 5, .quiet (.bool true) 5, .quiet (.bool true) 5, .quiet (.pointer (some ⟨w.heap.size, 1, none⟩)) 5, .quiet (.bool fk) 5, .quiet (.bool fk) 5, .quiet (.string x) 5, .step 0, .step 1, .step 2, .step 3, .step 4] [27, 28, 29, 30, 31] (by kernel_rfl)
     (fun s r w' => match s with
      | 0 => Below WR.heap.size WR w'
      | 1 => r 0 = .string x ∧ Below WR.heap.size WR w'
      | 2 => r 1 = (Pk.val ⟨sq, T, true, en, fk, x⟩) ∧ Below WR.heap.size WR w'
      | 3 => ∃ V, Below WR.heap.size WR V ∧ w' = V.alloc (.cells (Pk.cells ⟨sq, T, true, en, fk, x⟩) 63) ∧ r 2 = .slice (some ⟨V.heap.size, 0, none⟩) 1 1
      | 4 => ∃ V, Below WR.heap.size WR V ∧ w'.ownsRow base 63 6 (r 3) (k + 1) (pkCells (PL ++ [⟨sq, T, true, en, fk, x⟩])) ∧ (V.alloc (.cells (Pk.cells ⟨sq, T, true, en, fk, x⟩) 63)).grownBy w' u5.ownBlock
      | _ => ∃ V, Below WR.heap.size WR V ∧ w'.ownsRow base 63 6 (r 4) (k + 1) (pkCells (PL ++ [⟨sq, T, true, en, fk, x⟩])) ∧ (V.alloc (.cells (Pk.cells ⟨sq, T, true, en, fk, x⟩) 63)).grownBy w' u5.ownBlock
      ) ((Below.refl _ WR).drew) ?step ?fin
    case step =>
     intro i o ho a' w' s r hI hfree hvals
     have hcell : ∀ a : Addr, a.block < WR.heap.size → some a.block ≠ u5.ownBlock → w'.cell? a = WR.cell? a := fun a ha hne => by
      match s, hI with
      | 0, hI => exact Below.cell hI ha
      | 1, ⟨_, hI⟩ => exact Below.cell hI ha
      | 2, ⟨_, hI⟩ => exact Below.cell hI ha
      | 3, ⟨V, hI, hw, _⟩ => rw [hw]; exact Below.cell (hI.alloc hI.size _) ha
      | 4, ⟨V, hI, _, hg⟩ => exact (grown_cell hg (by simp; have := hI.size; omega) hne).trans (Below.cell (hI.alloc hI.size _) ha)
      | n + 5, ⟨V, hI, _, hg⟩ => exact (grown_cell hg (by simp; have := hI.size; omega) hne).trans (Below.cell (hI.alloc hI.size _) ha)
     have y0 := (hcell ⟨M, 0, none⟩ hMl hMu).trans q0
     have y1 := (hcell ⟨M, 1, none⟩ hMl hMu).trans q1
     have z1 := (hcell ⟨w.heap.size, 1, none⟩ hFl hFu).trans p1
     have z2 := (hcell ⟨w.heap.size, 2, none⟩ hFl hFu).trans p2
     clear hcell
     match i, ho with
     | 0, ho =>
      simp at ho; subst ho
      have e5 : a'.eval (.tmp 5) = u5 := (hfree 5 (by kernel_rfl)).trans rfl
      show s ≤ 5 → _
      intro hs
      refine .inl ⟨rfl, ?_⟩
      generalize a'.eval = ρ at *
      simp [execOp, go_sem, e5]
     | 1, ho =>
      simp at ho; subst ho
      have e0 : a'.eval (.tmp 0) = .pointer (some ⟨M, 0, none⟩) := (hfree 0 (by kernel_rfl)).trans rfl
      show s ≤ 5 → _
      intro hs
      refine .inl ⟨rfl, ?_⟩
      generalize a'.eval = ρ at *
      simp [execOp, go_sem, e0]
     | 2, ho =>
      simp at ho; subst ho
      have e33 : a'.eval (.tmp 33) = .pointer (some ⟨M, 0, none⟩) := hvals 1 _ _ (by kernel_rfl) rfl rfl
      show s ≤ 5 → _
      intro hs
      refine .inl ⟨rfl, ?_⟩
      generalize a'.eval = ρ at *
      simp [execOp, go_sem, e33]
     | 3, ho =>
      simp at ho; subst ho
      have e34 : a'.eval (.tmp 34) = .pointer (some ⟨M, 0, none⟩) := hvals 2 _ _ (by kernel_rfl) rfl rfl
      show s ≤ 5 → _
      intro hs
      refine .inl ⟨rfl, ?_⟩
      generalize a'.eval = ρ at *
      simp [execOp, go_sem, e34]
     | 4, ho =>
      simp at ho; subst ho
      have e35 : a'.eval (.tmp 35) = .pointer (some ⟨M, 0, none⟩) := hvals 3 _ _ (by kernel_rfl) rfl rfl
      show s ≤ 5 → _
      intro hs
      refine .inl ⟨rfl, ?_⟩
      generalize a'.eval = ρ at *
      simp [execOp, go_sem, e35]
     | 5, ho =>
      simp at ho; subst ho
      have e36 : a'.eval (.tmp 36) = .pointer (some ⟨M, 0, none⟩) := hvals 4 _ _ (by kernel_rfl) rfl rfl
      show s ≤ 5 → _
      intro hs
      refine .inl ⟨rfl, ?_⟩
      generalize a'.eval = ρ at *
      simp [execOp, go_sem, e36, y0]
     | 6, ho =>
      simp at ho; subst ho
      have e37 : a'.eval (.tmp 37) = .int .i64 lk := hvals 5 _ _ (by kernel_rfl) rfl rfl
      have ec0 : a'.eval (.const (.int .i64 65536)) = .int .i64 65536 := rfl
      show s ≤ 5 → _
      intro hs
      refine .inl ⟨rfl, ?_⟩
      generalize a'.eval = ρ at *
      simp [execOp, go_sem, e37, ec0, hrem]
     | 7, ho =>
      simp at ho; subst ho
      have e0 : a'.eval (.tmp 0) = .pointer (some ⟨M, 0, none⟩) := (hfree 0 (by kernel_rfl)).trans rfl
      show s ≤ 5 → _
      intro hs
      refine .inl ⟨rfl, ?_⟩
      generalize a'.eval = ρ at *
      simp [execOp, go_sem, e0]
     | 8, ho =>
      simp at ho; subst ho
      have e39 : a'.eval (.tmp 39) = .pointer (some ⟨M, 0, none⟩) := hvals 7 _ _ (by kernel_rfl) rfl rfl
      show s ≤ 5 → _
      intro hs
      refine .inl ⟨rfl, ?_⟩
      generalize a'.eval = ρ at *
      simp [execOp, go_sem, e39]
     | 9, ho =>
      simp at ho; subst ho
      have e40 : a'.eval (.tmp 40) = .pointer (some ⟨M, 0, none⟩) := hvals 8 _ _ (by kernel_rfl) rfl rfl
      show s ≤ 5 → _
      intro hs
      refine .inl ⟨rfl, ?_⟩
      generalize a'.eval = ρ at *
      simp [execOp, go_sem, e40]
     | 10, ho =>
      simp at ho; subst ho
      have e41 : a'.eval (.tmp 41) = .pointer (some ⟨M, 0, none⟩) := hvals 9 _ _ (by kernel_rfl) rfl rfl
      show s ≤ 5 → _
      intro hs
      refine .inl ⟨rfl, ?_⟩
      generalize a'.eval = ρ at *
      simp [execOp, go_sem, e41]
     | 11, ho =>
      simp at ho; subst ho
      have e42 : a'.eval (.tmp 42) = .pointer (some ⟨M, 1, none⟩) := hvals 10 _ _ (by kernel_rfl) rfl rfl
      show s ≤ 5 → _
      intro hs
      refine .inl ⟨rfl, ?_⟩
      generalize a'.eval = ρ at *
      simp [execOp, go_sem, e42, y1]
     | 12, ho =>
      simp at ho; subst ho
      have e6 : a'.eval (.tmp 6) = .int .i64 k := (hfree 6 (by kernel_rfl)).trans rfl
      show s ≤ 5 → _
      intro hs
      refine .inl ⟨rfl, ?_⟩
      generalize a'.eval = ρ at *
      simp [execOp, go_sem, e6]
     | 13, ho =>
      simp at ho; subst ho
      have e44 : a'.eval (.tmp 44) = .int .i64 k := hvals 12 _ _ (by kernel_rfl) rfl rfl
      have ec0 : a'.eval (.const (.int .i64 0)) = .int .i64 0 := rfl
      show s ≤ 5 → _
      intro hs
      refine .inl ⟨rfl, ?_⟩
      generalize a'.eval = ρ at *
      simp [execOp, go_sem, e44, ec0, hz]
     | 14, ho =>
      simp at ho; subst ho
      have e6 : a'.eval (.tmp 6) = .int .i64 k := (hfree 6 (by kernel_rfl)).trans rfl
      show s ≤ 5 → _
      intro hs
      refine .inl ⟨rfl, ?_⟩
      generalize a'.eval = ρ at *
      simp [execOp, go_sem, e6]
     | 15, ho =>
      simp at ho; subst ho
      have e3 : a'.eval (.tmp 3) = .pointer (some ⟨w.heap.size, 0, none⟩) := (hfree 3 (by kernel_rfl)).trans rfl
      show s ≤ 5 → _
      intro hs
      refine .inl ⟨rfl, ?_⟩
      generalize a'.eval = ρ at *
      simp [execOp, go_sem, e3]
     | 16, ho =>
      simp at ho; subst ho
      have e47 : a'.eval (.tmp 47) = .pointer (some ⟨w.heap.size, 2, none⟩) := hvals 15 _ _ (by kernel_rfl) rfl rfl
      show s ≤ 5 → _
      intro hs
      refine .inl ⟨rfl, ?_⟩
      generalize a'.eval = ρ at *
      simp [execOp, go_sem, e47, z2]
     | 17, ho =>
      simp at ho; subst ho
      have e48 : a'.eval (.tmp 48) = .slice (some ⟨b, off, none⟩) n pc := hvals 16 _ _ (by kernel_rfl) rfl rfl
      show s ≤ 5 → _
      intro hs
      refine .inl ⟨rfl, ?_⟩
      generalize a'.eval = ρ at *
      simp [go_sem, e48]
     | 18, ho =>
      simp at ho; subst ho
      have e49 : a'.eval (.tmp 49) = .int .i64 n := hvals 17 _ _ (by kernel_rfl) rfl rfl
      have ec0 : a'.eval (.const (.int .i64 1)) = .int .i64 1 := rfl
      show s ≤ 5 → _
      intro hs
      refine .inl ⟨rfl, ?_⟩
      generalize a'.eval = ρ at *
      simp [execOp, go_sem, e49, ec0, hsub]
     | 19, ho =>
      simp at ho; subst ho
      have e46 : a'.eval (.tmp 46) = .int .i64 k := hvals 14 _ _ (by kernel_rfl) rfl rfl
      have e50 : a'.eval (.tmp 50) = .int .i64 (n - 1) := hvals 18 _ _ (by kernel_rfl) rfl rfl
      show s ≤ 5 → _
      intro hs
      refine .inl ⟨rfl, ?_⟩
      generalize a'.eval = ρ at *
      simp [execOp, go_sem, e46, e50, hen]
     | 20, ho =>
      simp at ho; subst ho
      have e6 : a'.eval (.tmp 6) = .int .i64 k := (hfree 6 (by kernel_rfl)).trans rfl
      show s ≤ 5 → _
      intro hs
      refine .inl ⟨rfl, ?_⟩
      generalize a'.eval = ρ at *
      simp [execOp, go_sem, e6]
     | 21, ho =>
      simp at ho; subst ho
      have e52 : a'.eval (.tmp 52) = .int .i64 k := hvals 20 _ _ (by kernel_rfl) rfl rfl
      have ec0 : a'.eval (.const (.int .i64 0)) = .int .i64 0 := rfl
      show s ≤ 5 → _
      intro hs
      refine .inl ⟨rfl, ?_⟩
      generalize a'.eval = ρ at *
      simp [execOp, go_sem, e52, ec0, hz]
     | 22, ho =>
      simp at ho; subst ho
      have e53 : a'.eval (.tmp 53) = .bool true := hvals 21 _ _ (by kernel_rfl) rfl rfl
      show s ≤ 5 → _
      intro hs
      refine .inl ⟨rfl, ?_⟩
      generalize a'.eval = ρ at *
      simp [execOp, go_sem, e53]
     | 23, ho =>
      simp at ho; subst ho
      have e3 : a'.eval (.tmp 3) = .pointer (some ⟨w.heap.size, 0, none⟩) := (hfree 3 (by kernel_rfl)).trans rfl
      show s ≤ 5 → _
      intro hs
      have hg : a'.eval (.tmp 54) = .bool true := hvals 22 _ _ (by kernel_rfl) rfl rfl
      have hy := tmps_of hg
      refine .inl ⟨by simp [Region.wanted, yielded, hy], ?_⟩
      generalize a'.eval = ρ at *
      simp [execOp, go_sem, e3]
     | 24, ho =>
      simp at ho; subst ho
      have e55 : a'.eval (.tmp 55) = .pointer (some ⟨w.heap.size, 1, none⟩) := hvals 23 _ _ (by kernel_rfl) rfl rfl
      show s ≤ 5 → _
      intro hs
      have hg : a'.eval (.tmp 54) = .bool true := hvals 22 _ _ (by kernel_rfl) rfl rfl
      have hy := tmps_of hg
      refine .inl ⟨by simp [Region.wanted, yielded, hy], ?_⟩
      generalize a'.eval = ρ at *
      simp [execOp, go_sem, e55, z1]
     | 25, ho =>
      simp at ho; subst ho
      have e54 : a'.eval (.tmp 54) = .bool true := hvals 22 _ _ (by kernel_rfl) rfl rfl
      have e56 : a'.eval (.tmp 56) = .bool fk := hvals 24 _ _ (by kernel_rfl) rfl rfl
      have ec0 : a'.eval (.const (.bool false)) = .bool false := rfl
      show s ≤ 5 → _
      intro hs
      refine .inl ⟨rfl, ?_⟩
      generalize a'.eval = ρ at *
      simp [execOp, go_sem, e54, e56, ec0]
     | 26, ho =>
      simp at ho; subst ho
      have e7 : a'.eval (.tmp 7) = .string x := (hfree 7 (by kernel_rfl)).trans rfl
      show s ≤ 5 → _
      intro hs
      refine .inl ⟨rfl, ?_⟩
      generalize a'.eval = ρ at *
      simp [execOp, go_sem, e7]
     | 27, ho =>
      simp at ho; subst ho
      have e58 : a'.eval (.tmp 58) = .string x := hvals 26 _ _ (by kernel_rfl) rfl rfl
      show s = 0 → _ ∧ Oper.wp _ _ _ _ _ _
      intro hs
      subst hs
      refine ⟨rfl, ?_⟩
      have ef : a'.eval (.func 120) = .func (.func 120) #[] #[] := rfl
      have hB : Below WR.heap.size WR w' := hI
      refine oper_wp_call (f := 120) (args := #[.string x]) ?_ ?_
      ·generalize a'.eval = ρ at *
       simp [execOp, go_sem, e58, ef]
      ·refine (stringsClone_any x w' hx8).mono ?_
       rintro e w'' ⟨rfl, hb1⟩
       exact ⟨_, rfl, _, rfl, updR_at _ _ _, hB.trans (hb1.mono hB.size)⟩
     | 28, ho =>
      simp at ho; subst ho
      have e38 : a'.eval (.tmp 38) = .int .i64 sq := hvals 6 _ _ (by kernel_rfl) rfl rfl
      have e43 : a'.eval (.tmp 43) = .int .i64 T := hvals 11 _ _ (by kernel_rfl) rfl rfl
      have e45 : a'.eval (.tmp 45) = .bool true := hvals 13 _ _ (by kernel_rfl) rfl rfl
      have e51 : a'.eval (.tmp 51) = .bool en := hvals 19 _ _ (by kernel_rfl) rfl rfl
      have e57 : a'.eval (.tmp 57) = .bool fk := hvals 25 _ _ (by kernel_rfl) rfl rfl
      have e59 : a'.eval (.tmp 59) = r 0 := hvals 27 _ _ (by kernel_rfl) rfl rfl
      show s = 1 → _ ∧ Oper.wp _ _ _ _ _ _
      intro hs
      subst hs
      refine ⟨rfl, ?_⟩
      obtain ⟨hr0, hB⟩ := hI
      rw [hr0] at e59
      refine oper_wp_ok (v := Pk.val ⟨sq, T, true, en, fk, x⟩) (w' := w') ?_ ⟨_, rfl, updR_at _ _ _, hB⟩
      generalize a'.eval = ρ at *
      simp [execOp, go_sem, e38, e43, e45, e51, e57, e59, Pk.val]
     | 29, ho =>
      simp at ho; subst ho
      have e60 : a'.eval (.tmp 60) = r 1 := hvals 28 _ _ (by kernel_rfl) rfl rfl
      show s = 2 → _ ∧ Oper.wp _ _ _ _ _ _
      intro hs
      subst hs
      refine ⟨rfl, ?_⟩
      obtain ⟨hr1, hB⟩ := hI
      rw [hr1] at e60
      refine oper_wp_ok (v := .slice (some ⟨w'.heap.size, 0, none⟩) 1 1) (w' := w'.alloc (.cells (Pk.cells ⟨sq, T, true, en, fk, x⟩) 63)) ?_ ⟨_, rfl, w', hB, rfl, updR_at _ _ _⟩
      generalize a'.eval = ρ at *
      simp [execOp, go_sem, e60, Pk.val, Pk.cells]
     | 30, ho =>
      simp at ho; subst ho
      have e32 : a'.eval (.tmp 32) = u5 := hvals 0 _ _ (by kernel_rfl) rfl rfl
      have e61 : a'.eval (.tmp 61) = r 2 := hvals 29 _ _ (by kernel_rfl) rfl rfl
      show s = 3 → _ ∧ Oper.wp _ _ _ _ _ _
      intro hs
      subst hs
      refine ⟨rfl, ?_⟩
      obtain ⟨V, hB, hw, hr2⟩ := hI
      rw [hr2] at e61
      subst hw
      obtain ⟨v', w2, hrun, g2, g3⟩ := pk_snoc ⟨sq, T, true, en, fk, x⟩ (owns_below HOW.out hB (Nat.le_refl _)) (by omega) (by have := hB.size; omega)
      refine oper_wp_ok (v := v') (w' := w2) ?_ ⟨_, rfl, V, hB, ?_, g3⟩
      ·generalize a'.eval = ρ at *
       simp [execOp, resolve, invoke, builtin, e32, e61, hrun, Result.andThen]
      ·rw [updR_at]; exact g2
     | 31, ho =>
      simp at ho; subst ho
      have e62 : a'.eval (.tmp 62) = r 3 := hvals 30 _ _ (by kernel_rfl) rfl rfl
      show s = 4 → _ ∧ Oper.wp _ _ _ _ _ _
      intro hs
      subst hs
      refine ⟨rfl, ?_⟩
      obtain ⟨V, hB, g2, g3⟩ := hI
      refine oper_wp_ok (v := r 3) (w' := w') ?_ ⟨_, rfl, V, hB, ?_, g3⟩
      ·generalize a'.eval = ρ at *
       simp [execOp, go_sem, e62]
      ·rw [updR_at]; exact g2
    case fin =>
     rintro r w7 ⟨V, hB, g2, g3⟩
     simp only [putC, Ck.out, Act.put, List.setIfInBounds_toArray, List.set_cons_succ, List.set_cons_zero]
     have hVs := hB.size
     have hM7 : Blk w7 M #[.int .i64 lk, .int .i64 T, .int .i64 s0] 150 := (g3.block M (by simp; omega) hMu).trans (((KMR.out.below hB KMR.out.lt)).alloc _)
     have h1 : Kept [M] W0 (V.alloc (.cells (Pk.cells ⟨sq, T, true, en, fk, x⟩) 63)) := (HKR.out.below hB).alloc _
     have hK7 : Kept [M] W0 w7 := ⟨g3.os.trans h1.os, g3.tape.trans h1.tape, g3.output.trans h1.output, Nat.le_trans h1.size g3.size, fun j hj hn => (g3.block j (Nat.lt_of_lt_of_le hj h1.size) (fun e => by have := (HOW.out.lt j e.symm).1; have := HZ0.out.1; omega)).trans (h1.block j hj hn)⟩
     clear h1
     have HO7 : Hid (w7.ownsRow base 63 6 (r 4) (k + 1) (pkCells (pksK l T fk ps (k + 1)))) := by rw [HPK.out]; exact g2
     have HM7 : Hid (Blk w7 M #[.int .i64 lk, .int .i64 T, .int .i64 s0] 150) := hM7
     have HK7 : Hid (Kept [M] W0 w7) := hK7
     clear hM7 hK7 g2 g3 hB
     go_wp2_with fail
     go_roundw
     case rel => exact ⟨k + 1, by omega, by go_num, by rw [HLK.out] at HM7; exact HM7.out, HO7.out, HK7.out⟩
     case measure => simp [intOf]; omega
  ·have hkn : k = n := by omega
   subst hkn
   clear HSr
   go_wp2
   go_ret
   exact ⟨_, rfl, by rw [pksOf, ← HN.out]; exact HO.out, HM.out, ⟨by rw [HK.out.os, HZ0.out.2.os], by rw [HK.out.tape, HZ0.out.2.tape], by rw [HK.out.output, HZ0.out.2.output], Nat.le_trans HZ0.out.2.size HK.out.size, fun j hj hn => (HK.out.block j (Nat.lt_of_lt_of_le hj HZ0.out.2.size) hn).trans (HZ0.out.2.block j hj)⟩⟩
def sdS (l t s ft : Int) (turn : Bool) : Int := if turn = true ∨ l = 0 then t + 10 - ft else s
def sdE (l t s : Int) (f : Fr) (turn : Bool) : Int := if outE l t s = 0 then (if f.chk = 0 then roomE l t (sdS l t s f.time turn) f.time f.parts.length else f.chk) else outE l t s
def sdP (l t s : Int) (f : Fr) (turn : Bool) : List Pk := if sdE l t s f turn = 0 then pksOf l (f.time + sdS l t s f.time turn) f.key f.parts else []
def sdO (l t s : Int) (f : Fr) (turn : Bool) : Int × Int × Int := if sdE l t s f turn = 0 then (l + f.parts.length, f.time + sdS l t s f.time turn, sdS l t s f.time turn) else (0, 0, 0)
theorem sdE_zero {l t s : Int} {f : Fr} {turn : Bool} : sdE l t s f turn = 0 ↔ outE l t s = 0 ∧ f.chk = 0 ∧ roomE l t (sdS l t s f.time turn) f.time f.parts.length = 0 := by
 unfold sdE
 by_cases h1 : outE l t s = 0
 ·rw [if_pos h1]
  by_cases h2 : f.chk = 0
  ·rw [if_pos h2]; exact ⟨fun h => ⟨h1, h2, h⟩, fun h => h.2.2⟩
  ·rw [if_neg h2]; exact ⟨fun h => absurd h h2, fun h => absurd h.2.1 h2⟩
 ·rw [if_neg h1]; exact ⟨fun h => absurd h h1, fun h => absurd h.1 h1⟩
theorem owns_le {w : World} {base base' : Nat} {e : TypeId} {size n : Nat} {v : Value} {xs : List Value} (h : w.ownsRow base e size v n xs) (hb : base' ≤ base) : w.ownsRow base' e size v n xs := by
 obtain ⟨h1, h2 | ⟨g, cap, cur, h3, h4, h5⟩⟩ := h
 ·exact ⟨h1, .inl h2⟩
 ·exact ⟨h1, .inr ⟨g, cap, cur, h3, Nat.le_trans hb h4, h5⟩⟩
theorem owns_slice6 {w : World} {base : Nat} {e : TypeId} {size n : Nat} {v : Value} {xs : List Value} (h : w.ownsRow base e size v n xs) : ∃ a c, v = .slice a n c := by
 obtain ⟨_, ⟨rfl, rfl⟩ | ⟨g, cap, cur, rfl, _⟩⟩ := h
 ·exact ⟨_, _, rfl⟩
 ·exact ⟨_, _, rfl⟩
set_option maxHeartbeats 8000000 in
set_option maxRecDepth 100000 in
theorem outSend_any (l t s : Int) (f : Fr) (pv : Value) (turn : Bool) (w : World) (hp : StrsIn (fun _ => True) w pv f.parts) :
  Calls Tryz.prog 54 #[.agg #[.int .i64 l, .int .i64 t, .int .i64 s], .agg #[.int .i64 f.time, .bool f.key, pv], .bool turn] w fun e w' => ∃ v, e = .returned (.tuple #[.agg #[.int .i64 (sdO l t s f turn).1, .int .i64 (sdO l t s f turn).2.1, .int .i64 (sdO l t s f turn).2.2], v, .int .i64 (sdE l t s f turn)]) ∧ w'.ownsRow w.heap.size 63 6 v (sdP l t s f turn).length (pkCells (sdP l t s f turn)) ∧ Below w.heap.size w w' := by
 obtain ⟨pa, pc, ep⟩ := hp.1.len
 obtain ⟨ft, hft⟩ : ∃ x, x = f.time := ⟨_, rfl⟩
 obtain ⟨fk, hfk⟩ : ∃ x, x = f.key := ⟨_, rfl⟩
 obtain ⟨n, hn⟩ : ∃ x, x = f.parts.length := ⟨_, rfl⟩
 obtain ⟨E, hE⟩ : ∃ E, E = sdE l t s f turn := ⟨_, rfl⟩
 obtain ⟨E1, hE1⟩ : ∃ E, E = outE l t s := ⟨_, rfl⟩
 obtain ⟨E2, hE2⟩ : ∃ E, E = f.chk := ⟨_, rfl⟩
 obtain ⟨S, hS⟩ : ∃ x, x = sdS l t s f.time turn := ⟨_, rfl⟩
 obtain ⟨E3, hE3⟩ : ∃ E, E = roomE l t S f.time f.parts.length := ⟨_, rfl⟩
 obtain ⟨O, hO⟩ : ∃ x, x = sdO l t s f turn := ⟨_, rfl⟩
 obtain ⟨P, hP⟩ : ∃ x, x = sdP l t s f turn := ⟨_, rfl⟩
 have hEE0 : E = if E1 = 0 then (if E2 = 0 then E3 else E2) else E1 := by rw [hE, hE1, hE2, hE3, hS]; rfl
 have HEA : Hid (¬ E1 = 0 → E = E1) := fun h => by rw [hEE0, if_neg h]
 have HEB : Hid (E1 = 0 → ¬ E2 = 0 → E = E2) := fun h h' => by rw [hEE0, if_pos h, if_neg h']
 have HEC : Hid (E1 = 0 → E2 = 0 → E = E3) := fun h h' => by rw [hEE0, if_pos h, if_pos h']
 clear hEE0
 have HBAD : Hid (¬ E = 0 → O = (0, 0, 0) ∧ P = []) := fun h => by
  rw [hE] at h
  rw [hO, hP]; exact ⟨if_neg h, if_neg h⟩
 have HGOOD : Hid (E = 0 → O = (l + n, ft + S, S) ∧ P = pksOf l (ft + S) fk f.parts ∧ P.length = n) := fun h => by
  rw [hE] at h
  have e : P = pksOf l (ft + S) fk f.parts := by rw [hP, hft, hfk, hS]; exact if_pos h
  refine ⟨by rw [hO, hft, hn, hS]; exact if_pos h, e, by rw [e, pksOf, pksK_len, hn]⟩
 have HZ1 : Hid (E1 = 0 → 0 ≤ l ∧ l ≤ 1000000000 ∧ 0 ≤ t ∧ t ≤ 1000000 ∧ -1000000 ≤ s ∧ s ≤ 1000000) := fun h => outE_zero.1 (by rw [← hE1]; exact h)
 have HZ2 : Hid (E2 = 0 → f.chk = 0 ∧ 0 ≤ ft ∧ ft ≤ 1000000 ∧ 0 < n ∧ n ≤ 4) := fun h => by
  rw [hE2] at h
  have := chkF_zero h
  rw [hft, hn]; exact ⟨h, this.1, this.2.1, this.2.2.1, this.2.2.2.1⟩
 have HSS : Hid (((turn = true ∨ l = 0) → S = t + 10 - ft) ∧ (¬ (turn = true ∨ l = 0) → S = s)) := by
  rw [hS, hft]; exact ⟨fun h => if_pos h, fun h => if_neg h⟩
 have HCF : Hid (∀ U : World, Below w.heap.size w U → Calls Tryz.prog 94 #[.agg #[.int .i64 ft, .bool fk, pv]] U fun e w' => e = .returned (.int .i64 E2) ∧ Below U.heap.size U w') := fun U hU => by
  rw [hft, hE2]; exact frameCheck_any _ _ _ _ _ (hp.below hU).1 hp.2.1
 have HE3 : Hid (E3 = roomE l t S ft n) := by show _ = _; rw [hE3, hft, hn]
 have HE1 : Hid (outE l t s = E1) := hE1.symm
 have HF : Hid (ft = f.time ∧ fk = f.key ∧ n = f.parts.length) := ⟨hft, hfk, hn⟩
 rw [← hn] at ep
 rw [← hE, ← hO, ← hP, ← hft, ← hfk]
 obtain ⟨W0, hW0⟩ : ∃ W0, W0 = ((w.alloc (.cells #[.int .i64 l, .int .i64 t, .int .i64 s] 38)).alloc (.cells #[.int .i64 ft, .bool fk, pv] 98)).alloc (.cells #[.int .i64 0, .int .i64 0, .int .i64 0] 38) := ⟨_, rfl⟩
 have HS0 : Hid (Stay W0 (fun U => (Blk U w.heap.size #[.int .i64 l, .int .i64 t, .int .i64 s] 38 ∧ Blk U (w.heap.size + 1) #[.int .i64 ft, .bool fk, pv] 98 ∧ Blk U (w.heap.size + 1 + 1) #[.int .i64 0, .int .i64 0, .int .i64 0] 38) ∧ StrsIn (fun g => g < w.heap.size) U pv f.parts ∧ Below w.heap.size w U)) := by
  rw [hW0]
  have h2 := Blk.new (w.alloc (.cells #[.int .i64 l, .int .i64 t, .int .i64 s] 38)) #[.int .i64 ft, .bool fk, pv] 98
  have h3 := Blk.new ((w.alloc (.cells #[.int .i64 l, .int .i64 t, .int .i64 s] 38)).alloc (.cells #[.int .i64 ft, .bool fk, pv] 98)) #[.int .i64 0, .int .i64 0, .int .i64 0] 38
  rw [World.size_alloc] at h2
  rw [World.size_alloc, World.size_alloc] at h3
  exact (((((Blk.new _ _ _).alloc _).alloc _).stay).and ((h2.alloc _).stay.and h3.stay)).and ((((hp.mono (S' := fun g => g < w.heap.size) fun g h _ => h).stay.and (below_stay0 w)).alloc _ |>.alloc _).alloc _)
 clear hft hfk hn hE hE1 hE2 hE3 hS hO hP hp
 subst ep
 go_enter Tryz.func54, Tryz.ntmps54
 go_wp2_with fail
 rw [← hW0]
 clear hW0
 refine (outCheck_any l t s W0).mono ?_
 have HOC : Hid (outE l t s = E1) := HE1
 rw [HOC.out]
 rintro e w1 ⟨rfl, b1⟩
 have HS1 := Stay.go HS0 b1
 clear b1 HS0 HOC
 have HNO : Hid (∀ U : World, Blk U (w.heap.size + 1 + 1) #[.int .i64 0, .int .i64 0, .int .i64 0] 38 → Below w.heap.size w U → ∃ V, V = ((U.setCell ⟨w.heap.size + 1 + 1, 0, none⟩ (.int .i64 0)).setCell ⟨w.heap.size + 1 + 1, 1, none⟩ (.int .i64 0)).setCell ⟨w.heap.size + 1 + 1, 2, none⟩ (.int .i64 0) ∧ Blk V (w.heap.size + 1 + 1) #[.int .i64 0, .int .i64 0, .int .i64 0] 38 ∧ Below w.heap.size w V) := fun U hU hb => ⟨_, rfl, hU.put3 _ _ _, ((hb.setCell (p := ⟨w.heap.size + 1 + 1, 0, none⟩) (by show w.heap.size ≤ w.heap.size + 1 + 1; omega) _).setCell (p := ⟨w.heap.size + 1 + 1, 1, none⟩) (by show w.heap.size ≤ w.heap.size + 1 + 1; omega) _).setCell (p := ⟨w.heap.size + 1 + 1, 2, none⟩) (by show w.heap.size ≤ w.heap.size + 1 + 1; omega) _⟩
 by_cases h1 : E1 = 0
 case neg =>
  have hEE : E = E1 := HEA.out h1
  obtain ⟨hO0, hP0⟩ := HBAD.out (by rw [hEE]; exact h1)
  obtain ⟨V, hV, hVB, hVW⟩ := HNO.out w1 HS1.out.now.1.2.2 HS1.out.now.2.2
  obtain ⟨z0, z1, z2⟩ := HS1.out.now.1.2.2.three
  have f0 := HS1.out.now.1.2.2.free 0
  have f1 := HS1.out.now.1.2.2.free 1
  have f2 := HS1.out.now.1.2.2.free 2
  have HOP : Hid (O = (0, 0, 0) ∧ P = [] ∧ E = E1) := ⟨hO0, hP0, hEE⟩
  clear hO0 hP0
  clear HEA HEB HEC HBAD HGOOD HZ1 HZ2 HSS HCF HE3 HF hEE HS1 HNO
  go_wp2_with fail
  rw [← hV]
  obtain ⟨r0, r1, r2⟩ := hVB.three
  rw [HOP.out.1, HOP.out.2.1, HOP.out.2.2]
  exact bodyPost_ret (v := .tuple #[.agg #[.int .i64 0, .int .i64 0, .int .i64 0], .slice none 0 0, .int .i64 E1]) (by simp [results, Tryz.results54, go_sem, r0, r1, r2]) rfl ⟨_, rfl, World.ownsRow_nil _ _ _ _, hVW⟩
 obtain ⟨l0, l1, t0, t1, s0, s1⟩ := HZ1.out h1
 subst h1
 obtain ⟨j0, j1, j2⟩ := HS1.out.now.1.2.1.three
 go_wp2_with fail
 refine (HCF.out w1 HS1.out.now.2.2).mono ?_
 rintro e w2 ⟨rfl, b2⟩
 have HS2 := Stay.go HS1 b2
 clear b2 HS1 HCF j0 j1 j2
 by_cases h2 : E2 = 0
 case neg =>
  have hEE : E = E2 := HEB.out (by first | rfl | trivial) h2
  obtain ⟨hO0, hP0⟩ := HBAD.out (by rw [hEE]; exact h2)
  obtain ⟨V, hV, hVB, hVW⟩ := HNO.out w2 HS2.out.now.1.2.2 HS2.out.now.2.2
  obtain ⟨z0, z1, z2⟩ := HS2.out.now.1.2.2.three
  have f0 := HS2.out.now.1.2.2.free 0
  have f1 := HS2.out.now.1.2.2.free 1
  have f2 := HS2.out.now.1.2.2.free 2
  have HOP : Hid (O = (0, 0, 0) ∧ P = [] ∧ E = E2) := ⟨hO0, hP0, hEE⟩
  clear hO0 hP0
  clear HEA HEB HEC HBAD HGOOD HZ1 HZ2 HSS HE3 HF hEE HS2 HNO
  go_wp2_with fail
  rw [← hV]
  obtain ⟨r0, r1, r2⟩ := hVB.three
  rw [HOP.out.1, HOP.out.2.1, HOP.out.2.2]
  exact bodyPost_ret (v := .tuple #[.agg #[.int .i64 0, .int .i64 0, .int .i64 0], .slice none 0 0, .int .i64 E2]) (by simp [results, Tryz.results54, go_sem, r0, r1, r2]) rfl ⟨_, rfl, World.ownsRow_nil _ _ _ _, hVW⟩
 obtain ⟨hck, ft0, ft1, n0, n4⟩ := HZ2.out h2
 have HCKF : Hid (f.chk = 0) := hck
 have HEE2 : Hid (E = E3) := HEC.out (by first | rfl | trivial) h2
 subst h2
 obtain ⟨W3, hW3⟩ : ∃ W3, W3 = w2.alloc (.cells #[.int .i64 l, .int .i64 t, .int .i64 s] 150) := ⟨_, rfl⟩
 have hwm : w.heap.size + 1 + 1 < w2.heap.size := HS2.out.now.1.2.2.lt
 have HT3 : Hid (StayK [w2.heap.size] W3 _) := HS2.out.toK hW3
 have HM3 : Hid (Blk W3 w2.heap.size #[.int .i64 l, .int .i64 t, .int .i64 s] 150) := Blk.newE hW3
 obtain ⟨k0, k1, k2⟩ := HS2.out.now.1.1.three
 clear HEA HEB HEC HZ1 HZ2 hck HS2
 go_upto_region 8 with fail
 rw [← hW3]
 clear hW3 k0 k1 k2
 have hcase : turn = true ∨ (turn = false ∧ l = 0) ∨ (turn = false ∧ (l == 0) = false ∧ ¬ l = 0) := by
  cases turn
  ·by_cases h : l = 0
   ·exact .inr (.inl ⟨rfl, h⟩)
   ·exact .inr (.inr ⟨rfl, by simpa using h, h⟩)
  ·exact .inl rfl
 rcases hcase with h | ⟨h, h'⟩ | ⟨h, h', h''⟩
 ·have hS := HSS.out.1 (.inl h)
  have hS0 : -3000000 ≤ S := by omega
  have hS1 : S ≤ 3000000 := by omega
  have HSE : Hid (S = t + 10 - ft) := hS
  clear hS
  subst h
  obtain ⟨j0, j1, j2⟩ := HT3.out.now.1.2.1.three
  go_wp2_with fail
  refine (turnTo_any w2.heap.size l t s ft fk pa n pc W3 HM3.out ft0 ft1 t0 t1).mono ?_
  rw [← HSE.out]
  rintro e W4 ⟨rfl, hM4, k4⟩
  have HM4 : Hid (Blk W4 w2.heap.size #[.int .i64 l, .int .i64 t, .int .i64 S] 150) := hM4
  have HT4 := StayK.goK HT3 k4
  clear hM4 k4 HT3 HM3 j0 j1 j2
  obtain ⟨j0, j1, j2⟩ := HT4.out.now.1.2.1.three
  go_wp2_with fail
  refine (checkRoom_any w2.heap.size l t S ft fk pa n pc W4 HM4.out ft0 ft1 hS0 hS1 l0 l1 n4).mono ?_
  rw [← HE3.out]
  rintro e w5 ⟨rfl, b5⟩
  have HT5 := StayK.go HT4 b5
  have HM5 : Hid (Blk w5 w2.heap.size #[.int .i64 l, .int .i64 t, .int .i64 S] 150) := HM4.out.below b5 HM4.out.lt
  clear b5 HT4 HM4 j0 j1 j2
  by_cases h3 : E3 = 0
  case neg =>
   obtain ⟨hO0, hP0⟩ := HBAD.out (by rw [HEE2.out]; exact h3)
   obtain ⟨V, hV, hVB, hVW⟩ := HNO.out w5 HT5.out.now.1.2.2 HT5.out.now.2.2
   obtain ⟨z0, z1, z2⟩ := HT5.out.now.1.2.2.three
   have f0 := HT5.out.now.1.2.2.free 0
   have f1 := HT5.out.now.1.2.2.free 1
   have f2 := HT5.out.now.1.2.2.free 2
   have HOP : Hid (O = (0, 0, 0) ∧ P = [] ∧ E = E3) := ⟨hO0, hP0, HEE2.out⟩
   clear hO0 hP0 HBAD HGOOD HSS HE3 HF HT5 HNO HM5
   go_wp2_with fail
   rw [← hV]
   obtain ⟨r0, r1, r2⟩ := hVB.three
   rw [HOP.out.1, HOP.out.2.1, HOP.out.2.2]
   exact bodyPost_ret (v := .tuple #[.agg #[.int .i64 0, .int .i64 0, .int .i64 0], .slice none 0 0, .int .i64 E3]) (by simp [results, Tryz.results54, go_sem, r0, r1, r2]) rfl ⟨_, rfl, World.ownsRow_nil _ _ _ _, hVW⟩
  obtain ⟨hO1, hP1, hP2⟩ := HGOOD.out (by rw [HEE2.out]; exact h3)
  have HOP : Hid (O = (l + n, ft + S, S) ∧ P = pksOf l (ft + S) fk f.parts ∧ P.length = n ∧ E = 0) := ⟨hO1, hP1, hP2, by rw [HEE2.out]; exact h3⟩
  clear hO1 hP1 hP2 HGOOD HBAD HSS HE3 HNO HEE2
  subst h3
  obtain ⟨j0, j1, j2⟩ := HT5.out.now.1.2.1.three
  have HSEND : Hid (Calls Tryz.prog 98 #[.pointer (some ⟨w2.heap.size, 0, none⟩), .agg #[.int .i64 ft, .bool fk, .slice pa n pc]] w5 fun e w' => ∃ v, e = .returned v ∧ w'.ownsRow (w5.heap.size + 1) 63 6 v n (pkCells (pksOf l (ft + S) fk f.parts)) ∧ Blk w' w2.heap.size #[.int .i64 (l + n), .int .i64 (ft + S), .int .i64 S] 150 ∧ Kept [w2.heap.size] w5 w') := by
   obtain ⟨q1, q2, q3⟩ := HF.out
   have hstr := HT5.out.now.2.1
   rw [q3] at hstr
   have := send_any w2.heap.size l t S f pa pc w5 HM5.out (hstr.mono (fun g _ hg => by omega)) HCKF.out hS0 hS1 l0 l1
   rw [← q1, ← q2, ← q3] at this
   exact this
  go_wp2_with fail
  refine HSEND.out.mono ?_
  rintro e w6 ⟨v, rfl, hrow, hM6, k6⟩
  have HT6 := StayK.goK HT5 k6
  obtain ⟨m0, m1, m2⟩ := hM6.three
  obtain ⟨z0, z1, z2⟩ := HT6.out.now.1.2.2.three
  have hZ := HT6.out.now.1.2.2
  have f0 := hZ.free 0
  have f1 := hZ.free 1
  have f2 := hZ.free 2
  obtain ⟨V, hV⟩ : ∃ V, V = ((w6.setCell ⟨w.heap.size + 1 + 1, 0, none⟩ (.int .i64 (l + n))).setCell ⟨w.heap.size + 1 + 1, 1, none⟩ (.int .i64 (ft + S))).setCell ⟨w.heap.size + 1 + 1, 2, none⟩ (.int .i64 S) := ⟨_, rfl⟩
  have hVB : Blk V (w.heap.size + 1 + 1) #[.int .i64 (l + n), .int .i64 (ft + S), .int .i64 S] 38 := by rw [hV]; exact hZ.put3 _ _ _
  have hVW : Below w.heap.size w V := by
   rw [hV]
   exact ((HT6.out.now.2.2.setCell (p := ⟨w.heap.size + 1 + 1, 0, none⟩) (by show w.heap.size ≤ w.heap.size + 1 + 1; omega) _).setCell (p := ⟨w.heap.size + 1 + 1, 1, none⟩) (by show w.heap.size ≤ w.heap.size + 1 + 1; omega) _).setCell (p := ⟨w.heap.size + 1 + 1, 2, none⟩) (by show w.heap.size ≤ w.heap.size + 1 + 1; omega) _
  have h52 := HM5.out.lt
  have hVR : V.ownsRow w.heap.size 63 6 v n (pkCells (pksOf l (ft + S) fk f.parts)) := by
   rw [hV]
   exact owns_le (ownsRow_setCell_below (ownsRow_setCell_below (ownsRow_setCell_below hrow (by show w.heap.size + 1 + 1 < _; omega) _) (by show w.heap.size + 1 + 1 < _; omega) _) (by show w.heap.size + 1 + 1 < _; omega) _) (by omega)
  obtain ⟨va, vc, ev⟩ := owns_slice6 hrow
  subst ev
  clear hrow hM6 k6 HT6 HT5 HM5 hZ h52 j0 j1 j2 HSEND HF
  go_wp2_with fail
  rw [← hV]
  obtain ⟨r0, r1, r2⟩ := hVB.three
  obtain ⟨o1, o2, o3, o4⟩ := HOP.out
  rw [o1, o4, o3, o2]
  exact bodyPost_ret (v := .tuple #[.agg #[.int .i64 (l + n), .int .i64 (ft + S), .int .i64 S], .slice va n vc, .int .i64 0]) (by simp [results, Tryz.results54, go_sem, r0, r1, r2]) rfl ⟨_, rfl, hVR, hVW⟩
 ·have hS := HSS.out.1 (.inr h')
  have hS0 : -3000000 ≤ S := by omega
  have hS1 : S ≤ 3000000 := by omega
  have HSE : Hid (S = t + 10 - ft) := hS
  clear hS
  subst h
  have hlb : (l == 0) = true := by simpa using h'
  clear h'
  obtain ⟨j0, j1, j2⟩ := HT3.out.now.1.2.1.three
  go_wp2_with fail
  refine (isNew_any w2.heap.size l t s W3 HM3.out).mono ?_
  rw [hlb]
  rintro e w' ⟨rfl, rfl⟩
  clear hlb
  go_wp2_with fail
  refine (turnTo_any w2.heap.size l t s ft fk pa n pc W3 HM3.out ft0 ft1 t0 t1).mono ?_
  rw [← HSE.out]
  rintro e W4 ⟨rfl, hM4, k4⟩
  have HM4 : Hid (Blk W4 w2.heap.size #[.int .i64 l, .int .i64 t, .int .i64 S] 150) := hM4
  have HT4 := StayK.goK HT3 k4
  clear hM4 k4 HT3 HM3 j0 j1 j2
  obtain ⟨j0, j1, j2⟩ := HT4.out.now.1.2.1.three
  go_wp2_with fail
  refine (checkRoom_any w2.heap.size l t S ft fk pa n pc W4 HM4.out ft0 ft1 hS0 hS1 l0 l1 n4).mono ?_
  rw [← HE3.out]
  rintro e w5 ⟨rfl, b5⟩
  have HT5 := StayK.go HT4 b5
  have HM5 : Hid (Blk w5 w2.heap.size #[.int .i64 l, .int .i64 t, .int .i64 S] 150) := HM4.out.below b5 HM4.out.lt
  clear b5 HT4 HM4 j0 j1 j2
  by_cases h3 : E3 = 0
  case neg =>
   obtain ⟨hO0, hP0⟩ := HBAD.out (by rw [HEE2.out]; exact h3)
   obtain ⟨V, hV, hVB, hVW⟩ := HNO.out w5 HT5.out.now.1.2.2 HT5.out.now.2.2
   obtain ⟨z0, z1, z2⟩ := HT5.out.now.1.2.2.three
   have f0 := HT5.out.now.1.2.2.free 0
   have f1 := HT5.out.now.1.2.2.free 1
   have f2 := HT5.out.now.1.2.2.free 2
   have HOP : Hid (O = (0, 0, 0) ∧ P = [] ∧ E = E3) := ⟨hO0, hP0, HEE2.out⟩
   clear hO0 hP0 HBAD HGOOD HSS HE3 HF HT5 HNO HM5
   go_wp2_with fail
   rw [← hV]
   obtain ⟨r0, r1, r2⟩ := hVB.three
   rw [HOP.out.1, HOP.out.2.1, HOP.out.2.2]
   exact bodyPost_ret (v := .tuple #[.agg #[.int .i64 0, .int .i64 0, .int .i64 0], .slice none 0 0, .int .i64 E3]) (by simp [results, Tryz.results54, go_sem, r0, r1, r2]) rfl ⟨_, rfl, World.ownsRow_nil _ _ _ _, hVW⟩
  obtain ⟨hO1, hP1, hP2⟩ := HGOOD.out (by rw [HEE2.out]; exact h3)
  have HOP : Hid (O = (l + n, ft + S, S) ∧ P = pksOf l (ft + S) fk f.parts ∧ P.length = n ∧ E = 0) := ⟨hO1, hP1, hP2, by rw [HEE2.out]; exact h3⟩
  clear hO1 hP1 hP2 HGOOD HBAD HSS HE3 HNO HEE2
  subst h3
  obtain ⟨j0, j1, j2⟩ := HT5.out.now.1.2.1.three
  have HSEND : Hid (Calls Tryz.prog 98 #[.pointer (some ⟨w2.heap.size, 0, none⟩), .agg #[.int .i64 ft, .bool fk, .slice pa n pc]] w5 fun e w' => ∃ v, e = .returned v ∧ w'.ownsRow (w5.heap.size + 1) 63 6 v n (pkCells (pksOf l (ft + S) fk f.parts)) ∧ Blk w' w2.heap.size #[.int .i64 (l + n), .int .i64 (ft + S), .int .i64 S] 150 ∧ Kept [w2.heap.size] w5 w') := by
   obtain ⟨q1, q2, q3⟩ := HF.out
   have hstr := HT5.out.now.2.1
   rw [q3] at hstr
   have := send_any w2.heap.size l t S f pa pc w5 HM5.out (hstr.mono (fun g _ hg => by omega)) HCKF.out hS0 hS1 l0 l1
   rw [← q1, ← q2, ← q3] at this
   exact this
  go_wp2_with fail
  refine HSEND.out.mono ?_
  rintro e w6 ⟨v, rfl, hrow, hM6, k6⟩
  have HT6 := StayK.goK HT5 k6
  obtain ⟨m0, m1, m2⟩ := hM6.three
  obtain ⟨z0, z1, z2⟩ := HT6.out.now.1.2.2.three
  have hZ := HT6.out.now.1.2.2
  have f0 := hZ.free 0
  have f1 := hZ.free 1
  have f2 := hZ.free 2
  obtain ⟨V, hV⟩ : ∃ V, V = ((w6.setCell ⟨w.heap.size + 1 + 1, 0, none⟩ (.int .i64 (l + n))).setCell ⟨w.heap.size + 1 + 1, 1, none⟩ (.int .i64 (ft + S))).setCell ⟨w.heap.size + 1 + 1, 2, none⟩ (.int .i64 S) := ⟨_, rfl⟩
  have hVB : Blk V (w.heap.size + 1 + 1) #[.int .i64 (l + n), .int .i64 (ft + S), .int .i64 S] 38 := by rw [hV]; exact hZ.put3 _ _ _
  have hVW : Below w.heap.size w V := by
   rw [hV]
   exact ((HT6.out.now.2.2.setCell (p := ⟨w.heap.size + 1 + 1, 0, none⟩) (by show w.heap.size ≤ w.heap.size + 1 + 1; omega) _).setCell (p := ⟨w.heap.size + 1 + 1, 1, none⟩) (by show w.heap.size ≤ w.heap.size + 1 + 1; omega) _).setCell (p := ⟨w.heap.size + 1 + 1, 2, none⟩) (by show w.heap.size ≤ w.heap.size + 1 + 1; omega) _
  have h52 := HM5.out.lt
  have hVR : V.ownsRow w.heap.size 63 6 v n (pkCells (pksOf l (ft + S) fk f.parts)) := by
   rw [hV]
   exact owns_le (ownsRow_setCell_below (ownsRow_setCell_below (ownsRow_setCell_below hrow (by show w.heap.size + 1 + 1 < _; omega) _) (by show w.heap.size + 1 + 1 < _; omega) _) (by show w.heap.size + 1 + 1 < _; omega) _) (by omega)
  obtain ⟨va, vc, ev⟩ := owns_slice6 hrow
  subst ev
  clear hrow hM6 k6 HT6 HT5 HM5 hZ h52 j0 j1 j2 HSEND HF
  go_wp2_with fail
  rw [← hV]
  obtain ⟨r0, r1, r2⟩ := hVB.three
  obtain ⟨o1, o2, o3, o4⟩ := HOP.out
  rw [o1, o4, o3, o2]
  exact bodyPost_ret (v := .tuple #[.agg #[.int .i64 (l + n), .int .i64 (ft + S), .int .i64 S], .slice va n vc, .int .i64 0]) (by simp [results, Tryz.results54, go_sem, r0, r1, r2]) rfl ⟨_, rfl, hVR, hVW⟩
 ·have hS := HSS.out.2 (by rw [h]; simpa using h'')
  subst h hS
  have hS0 : -3000000 ≤ S := by omega
  have hS1 : S ≤ 3000000 := by omega
  clear h''
  obtain ⟨j0, j1, j2⟩ := HT3.out.now.1.2.1.three
  go_wp2_with fail
  refine (isNew_any w2.heap.size l t S W3 HM3.out).mono ?_
  rw [h']
  rintro e w' ⟨rfl, rfl⟩
  have HM4 := HM3
  have HT4 := HT3
  obtain ⟨W4, hW4⟩ : ∃ x, x = W3 := ⟨_, rfl⟩
  subst hW4
  clear HM3 HT3
  go_wp2_with fail
  refine (checkRoom_any w2.heap.size l t S ft fk pa n pc W4 HM4.out ft0 ft1 hS0 hS1 l0 l1 n4).mono ?_
  rw [← HE3.out]
  rintro e w5 ⟨rfl, b5⟩
  have HT5 := StayK.go HT4 b5
  have HM5 : Hid (Blk w5 w2.heap.size #[.int .i64 l, .int .i64 t, .int .i64 S] 150) := HM4.out.below b5 HM4.out.lt
  clear b5 HT4 HM4 j0 j1 j2
  by_cases h3 : E3 = 0
  case neg =>
   obtain ⟨hO0, hP0⟩ := HBAD.out (by rw [HEE2.out]; exact h3)
   obtain ⟨V, hV, hVB, hVW⟩ := HNO.out w5 HT5.out.now.1.2.2 HT5.out.now.2.2
   obtain ⟨z0, z1, z2⟩ := HT5.out.now.1.2.2.three
   have f0 := HT5.out.now.1.2.2.free 0
   have f1 := HT5.out.now.1.2.2.free 1
   have f2 := HT5.out.now.1.2.2.free 2
   have HOP : Hid (O = (0, 0, 0) ∧ P = [] ∧ E = E3) := ⟨hO0, hP0, HEE2.out⟩
   clear hO0 hP0 HBAD HGOOD HSS HE3 HF HT5 HNO HM5
   go_wp2_with fail
   rw [← hV]
   obtain ⟨r0, r1, r2⟩ := hVB.three
   rw [HOP.out.1, HOP.out.2.1, HOP.out.2.2]
   exact bodyPost_ret (v := .tuple #[.agg #[.int .i64 0, .int .i64 0, .int .i64 0], .slice none 0 0, .int .i64 E3]) (by simp [results, Tryz.results54, go_sem, r0, r1, r2]) rfl ⟨_, rfl, World.ownsRow_nil _ _ _ _, hVW⟩
  obtain ⟨hO1, hP1, hP2⟩ := HGOOD.out (by rw [HEE2.out]; exact h3)
  have HOP : Hid (O = (l + n, ft + S, S) ∧ P = pksOf l (ft + S) fk f.parts ∧ P.length = n ∧ E = 0) := ⟨hO1, hP1, hP2, by rw [HEE2.out]; exact h3⟩
  clear hO1 hP1 hP2 HGOOD HBAD HSS HE3 HNO HEE2
  subst h3
  obtain ⟨j0, j1, j2⟩ := HT5.out.now.1.2.1.three
  have HSEND : Hid (Calls Tryz.prog 98 #[.pointer (some ⟨w2.heap.size, 0, none⟩), .agg #[.int .i64 ft, .bool fk, .slice pa n pc]] w5 fun e w' => ∃ v, e = .returned v ∧ w'.ownsRow (w5.heap.size + 1) 63 6 v n (pkCells (pksOf l (ft + S) fk f.parts)) ∧ Blk w' w2.heap.size #[.int .i64 (l + n), .int .i64 (ft + S), .int .i64 S] 150 ∧ Kept [w2.heap.size] w5 w') := by
   obtain ⟨q1, q2, q3⟩ := HF.out
   have hstr := HT5.out.now.2.1
   rw [q3] at hstr
   have := send_any w2.heap.size l t S f pa pc w5 HM5.out (hstr.mono (fun g _ hg => by omega)) HCKF.out hS0 hS1 l0 l1
   rw [← q1, ← q2, ← q3] at this
   exact this
  go_wp2_with fail
  refine HSEND.out.mono ?_
  rintro e w6 ⟨v, rfl, hrow, hM6, k6⟩
  have HT6 := StayK.goK HT5 k6
  obtain ⟨m0, m1, m2⟩ := hM6.three
  obtain ⟨z0, z1, z2⟩ := HT6.out.now.1.2.2.three
  have hZ := HT6.out.now.1.2.2
  have f0 := hZ.free 0
  have f1 := hZ.free 1
  have f2 := hZ.free 2
  obtain ⟨V, hV⟩ : ∃ V, V = ((w6.setCell ⟨w.heap.size + 1 + 1, 0, none⟩ (.int .i64 (l + n))).setCell ⟨w.heap.size + 1 + 1, 1, none⟩ (.int .i64 (ft + S))).setCell ⟨w.heap.size + 1 + 1, 2, none⟩ (.int .i64 S) := ⟨_, rfl⟩
  have hVB : Blk V (w.heap.size + 1 + 1) #[.int .i64 (l + n), .int .i64 (ft + S), .int .i64 S] 38 := by rw [hV]; exact hZ.put3 _ _ _
  have hVW : Below w.heap.size w V := by
   rw [hV]
   exact ((HT6.out.now.2.2.setCell (p := ⟨w.heap.size + 1 + 1, 0, none⟩) (by show w.heap.size ≤ w.heap.size + 1 + 1; omega) _).setCell (p := ⟨w.heap.size + 1 + 1, 1, none⟩) (by show w.heap.size ≤ w.heap.size + 1 + 1; omega) _).setCell (p := ⟨w.heap.size + 1 + 1, 2, none⟩) (by show w.heap.size ≤ w.heap.size + 1 + 1; omega) _
  have h52 := HM5.out.lt
  have hVR : V.ownsRow w.heap.size 63 6 v n (pkCells (pksOf l (ft + S) fk f.parts)) := by
   rw [hV]
   exact owns_le (ownsRow_setCell_below (ownsRow_setCell_below (ownsRow_setCell_below hrow (by show w.heap.size + 1 + 1 < _; omega) _) (by show w.heap.size + 1 + 1 < _; omega) _) (by show w.heap.size + 1 + 1 < _; omega) _) (by omega)
  obtain ⟨va, vc, ev⟩ := owns_slice6 hrow
  subst ev
  clear hrow hM6 k6 HT6 HT5 HM5 hZ h52 j0 j1 j2 HSEND HF
  go_wp2_with fail
  rw [← hV]
  obtain ⟨r0, r1, r2⟩ := hVB.three
  obtain ⟨o1, o2, o3, o4⟩ := HOP.out
  rw [o1, o4, o3, o2]
  exact bodyPost_ret (v := .tuple #[.agg #[.int .i64 (l + n), .int .i64 (ft + S), .int .i64 S], .slice va n vc, .int .i64 0]) (by simp [results, Tryz.results54, go_sem, r0, r1, r2]) rfl ⟨_, rfl, hVR, hVW⟩
theorem roomE_zero {l t s ft : Int} {n : Nat} : roomE l t s ft n = 0 ↔ t ≤ ft + s ∧ ft + s ≤ 1000000 ∧ l + n ≤ 1000000000 := by
 unfold roomE
 repeat' split
 all_goals first | omega | (constructor <;> intro h <;> omega)
theorem sd_zero {l t s : Int} {f : Fr} {turn : Bool} (h : sdE l t s f turn = 0) : sdO l t s f turn = (l + f.parts.length, f.time + sdS l t s f.time turn, sdS l t s f.time turn) ∧ sdP l t s f turn = pksOf l (f.time + sdS l t s f.time turn) f.key f.parts ∧ 0 ≤ l ∧ 0 ≤ t ∧ t ≤ f.time + sdS l t s f.time turn ∧ f.time + sdS l t s f.time turn ≤ 1000000 ∧ l + f.parts.length ≤ 1000000000 ∧ 0 < f.parts.length ∧ f.parts.length ≤ 4 ∧ 0 ≤ f.time ∧ f.time ≤ 1000000 ∧ f.chk = 0 := by
 obtain ⟨h1, h2, h3⟩ := sdE_zero.1 h
 obtain ⟨a1, a2, a3, a4, a5, a6⟩ := outE_zero.1 h1
 obtain ⟨r1, r2, r3⟩ := roomE_zero.1 h3
 obtain ⟨c1, c2, c3, c4, _⟩ := chkF_zero h2
 exact ⟨if_pos h, if_pos h, a1, a3, r1, r2, r3, c3, c4, c1, c2, h2⟩
theorem pksOf_at {last t : Int} {key : Bool} {ps : List ByteArray} {i : Nat} (h : i < ps.length) : (pksOf last t key ps)[i]?.getD Pk.zero = pkAt last t key ps i := by
 unfold pksOf pksK
 rw [List.getElem?_map, List.getElem?_range h]; rfl
end Go.Proofs.YtnpaejknoipicagGreat
namespace Go.Proofs.YtnpaejknoipicagGreat
open Go.RowKit Go.Sort
def qO (l : List Sk) (k : Nat) : Bool := if k = 0 then (l[k]?.getD Sk.zero).p.f && !(l[k]?.getD Sk.zero).p.e else !(l[k]?.getD Sk.zero).p.f && !(l[k]?.getD Sk.zero).p.e && folB (l[k - 1]?.getD Sk.zero) (l[k]?.getD Sk.zero)
theorem fit_ogo (l : List Sk) : ∀ (m : List Sk) (k : Nat), l.drop k = m → chkFit (qO l) k m = ogo (if k = 0 then none else some (l[k - 1]?.getD Sk.zero)) m
 | [], _, _ => by simp [chkFit, ogo]
 | x :: r, k, hd => by
  have hk : k < l.length := by
   by_cases h : k < l.length
   ·exact h
   ·rw [List.drop_eq_nil_of_le (by omega)] at hd; cases hd
  have hx : l[k]?.getD Sk.zero = x := by
   rw [List.drop_eq_getElem_cons hk] at hd
   injection hd with h1 h2
   rw [List.getElem?_eq_getElem hk, Option.getD_some, h1]
  have hr : l.drop (k + 1) = r := by
   rw [List.drop_eq_getElem_cons hk] at hd
   injection hd
  have ih := fit_ogo l r (k + 1) hr
  rw [if_neg (by omega), show k + 1 - 1 = k by omega, hx] at ih
  have hq : qO l k = !badO (if k = 0 then none else some (l[k - 1]?.getD Sk.zero)) x := by
   unfold qO badO
   rw [hx]
   by_cases h0 : k = 0
   ·rw [if_pos h0, if_pos h0]; cases x.p.f <;> cases x.p.e <;> rfl
   ·rw [if_neg h0, if_neg h0]
    simp only [nextB]
    cases x.p.f <;> cases x.p.e <;> simp
  simp only [chkFit, ogo]
  by_cases hc : x.chk = 0
  ·rw [if_pos hc, if_pos hc, hq]
   cases hb : badO (if k = 0 then none else some (l[k - 1]?.getD Sk.zero)) x
   ·simp only [Bool.not_false, if_true, Bool.false_eq_true, if_false]; exact ih
   ·simp
  ·rw [if_neg hc, if_neg hc]
theorem fit_open (l : List Sk) : chkFit (qO l) 0 l = ogo none l := fit_ogo l l 0 rfl
set_option maxHeartbeats 6000000 in
set_option maxRecDepth 100000 in
theorem isBegun_any (v : Value) (l : List Sk) (k : Nat) (w : World) (hv : Sls w v l) (hk : k < l.length) (hlen : l.length ≤ 9223372036854775807) (hn : ¬ k = 0 → 0 ≤ (l[k - 1]?.getD Sk.zero).n ∧ (l[k - 1]?.getD Sk.zero).n ≤ 1000000001) :
  Calls Tryz.prog 171 #[v, .int .i64 k] w fun e w' => e = .returned (.bool (qO l k)) ∧ Below w.heap.size w w' := by
 obtain ⟨ao, c, rfl, hc⟩ := hv.parts
 obtain ⟨n, hnn⟩ : ∃ n, n = l.length := ⟨_, rfl⟩
 rw [← hnn] at hc hk hlen ⊢
 obtain ⟨b, off, rfl, hb, hat⟩ := hc k hk
 obtain ⟨x, hx⟩ : ∃ x, x = l[k]?.getD Sk.zero := ⟨_, rfl⟩
 obtain ⟨r, hr⟩ : ∃ r, r = qO l k := ⟨_, rfl⟩
 rw [← hr]
 have hr' : r = if k = 0 then x.p.f && !x.p.e else !x.p.f && !x.p.e && folB (l[k - 1]?.getD Sk.zero) x := by rw [hr, hx]; rfl
 rw [← hx] at hat
 have hki : (k : Int) < (n : Int) := by omega
 obtain ⟨g0, g1, g2, g3, g4, g5, g6⟩ := hat
 clear hr hx hnn
 by_cases hk0 : k = 0
 ·subst hk0
  rw [if_pos rfl] at hr'
  simp only [Nat.zero_mul, Nat.add_zero] at g0 g1 g2 g3 g4 g5 g6
  subst hr'
  clear hc hv hn
  have hn0 : (0 : Int) < (n : Int) := by omega
  cases hf : x.p.f <;> cases he : x.p.e <;> rw [hf] at g3 <;> rw [he] at g4
  all_goals
   go_enter Tryz.func171, Tryz.ntmps171
   go_wp2
   go_quiet (fail)
   go_wp2
   go_ret
   exact ⟨rfl, below_drewN ((Below.refl _ _).alloc (Nat.le_refl _) _) _⟩
 ·obtain ⟨j, hj⟩ : ∃ j, j = k - 1 := ⟨_, rfl⟩
  rw [if_neg hk0, ← hj] at hr'
  have hyb := hn hk0
  rw [← hj] at hyb
  obtain ⟨b2, off2, e2, hb2, hat2⟩ := hc j (by omega)
  simp only [Option.some.injEq, Addr.mk.injEq, and_true] at e2
  obtain ⟨rfl, rfl⟩ := e2
  obtain ⟨y, hy⟩ : ∃ y, y = l[j]?.getD Sk.zero := ⟨_, rfl⟩
  rw [← hy] at hat2 hr' hyb
  obtain ⟨p0, p1, p2, p3, p4, p5, p6⟩ := hat2
  have hji : (j : Int) < (n : Int) := by omega
  have hj1 : (k : Int) - 1 = (j : Int) := by omega
  have hkb : ((k : Int) == 0) = false := by simp; omega
  clear hy hc hv hn hj hk0
  cases hf : x.p.f
  ·cases he : x.p.e
   ·obtain ⟨t, ht⟩ : ∃ t, t = folB y x := ⟨_, rfl⟩
    rw [hf, he, ← ht] at hr'
    simp only [Bool.not_false, Bool.true_and] at hr'
    subst hr'
    obtain ⟨W, hW⟩ : ∃ W, W = w.alloc (.cells #[.int .i64 x.p.seq, .int .i64 x.p.time, .bool x.p.f, .bool x.p.e, .bool x.p.k, .string x.p.t] 63) := ⟨_, rfl⟩
    have bW : Below w.heap.size w W := by rw [hW]; exact (Below.refl _ w).alloc (Nat.le_refl _) _
    have kW : Blk W w.heap.size #[.int .i64 x.p.seq, .int .i64 x.p.time, .bool x.p.f, .bool x.p.e, .bool x.p.k, .string x.p.t] 63 := by rw [hW]; exact Blk.new w _ _
    have cF : ∀ d os, Calls Tryz.prog 150 #[.agg #[.int .i64 y.n, .int .i64 y.p.seq, .int .i64 y.p.time, .bool y.p.f, .bool y.p.e, .bool y.p.k, .string y.p.t], .agg #[.int .i64 x.n, .int .i64 x.p.seq, .int .i64 x.p.time, .bool x.p.f, .bool x.p.e, .bool x.p.k, .string x.p.t]] (grow (redrawn W d) os) fun e w'' => e = .returned (.bool r) ∧ ∃ p : Regrown, w'' = grow (redrawn W p.d) p.os := fun d os =>
     Calls.regrown_of (by rw [ht]; exact follows_any y x (grow (redrawn W d) os) hyb)
    have BW : Hid (Below w.heap.size w W) := bW
    have cel : ∀ (i : Nat) (u : Value), w.cell? ⟨b, i, none⟩ = some u → W.cell? ⟨b, i, none⟩ = some u := fun i u h => (bW.cell (p := ⟨b, i, none⟩) hb).trans h
    have k2 := kW.cell (j := 2) (u := .bool x.p.f) rfl
    have k3 := kW.cell (j := 3) (u := .bool x.p.e) rfl
    rw [hf] at k2 g3 cF hW
    rw [he] at k3 g4 cF hW
    have q0 := cell_regrown (cel _ _ p0)
    have q1 := cell_regrown (cel _ _ p1)
    have q2 := cell_regrown (cel _ _ p2)
    have q3 := cell_regrown (cel _ _ p3)
    have q4 := cell_regrown (cel _ _ p4)
    have q5 := cell_regrown (cel _ _ p5)
    have q6 := cell_regrown (cel _ _ p6)
    have z0 := cell_regrown (cel _ _ g0)
    have z1 := cell_regrown (cel _ _ g1)
    have z2 := cell_regrown (cel _ _ g2)
    have z3 := cell_regrown (cel _ _ g3)
    have z4 := cell_regrown (cel _ _ g4)
    have z5 := cell_regrown (cel _ _ g5)
    have z6 := cell_regrown (cel _ _ g6)
    have m2 := cell_regrown k2
    have m3 := cell_regrown k3
    have hwr : IntKind.i64.wrap (j : Int) = (j : Int) := by rw [IntKind.wrap_i64]; omega
    clear p0 p1 p2 p3 p4 p5 p6 k2 k3 kW bW cel ht
    go_enter Tryz.func171, Tryz.ntmps171
    go_wp2
    rw [← hW]
    clear hW g0 g1 g2 g3 g4 g5 g6
    refine wp_region_quiet_below (by kernel_rfl) (by kernel_rfl) ?_
    repeat (quiet_step (exact cF _ _))
    refine wpQuiet_nil ?_
    intro _ hw'
    obtain ⟨⟨dq, osq⟩, hw''⟩ := hw'
    subst hw''
    have bR := below_regrown W dq osq
    have BR : Hid (Below w.heap.size w (grow (redrawn W dq) osq)) := BW.out.trans (bR.mono BW.out.size)
    clear bR
    go_wp2
    go_ret
    exact ⟨rfl, BR.out⟩
   ·rw [hf, he] at hr'
    simp only [Bool.not_true, Bool.and_false, Bool.false_and] at hr'
    subst hr'
    rw [hf] at g3
    rw [he] at g4
    go_enter Tryz.func171, Tryz.ntmps171
    go_wp2
    go_quiet (fail)
    go_wp2
    go_ret
    exact ⟨rfl, below_drewN ((Below.refl _ _).alloc (Nat.le_refl _) _) _⟩
  ·rw [hf] at hr'
   simp only [Bool.not_true, Bool.false_and] at hr'
   subst hr'
   rw [hf] at g3
   go_enter Tryz.func171, Tryz.ntmps171
   go_wp2
   go_quiet (fail)
   go_wp2
   go_ret
   exact ⟨rfl, below_drewN ((Below.refl _ _).alloc (Nat.le_refl _) _) _⟩
end Go.Proofs.YtnpaejknoipicagGreat
namespace Go.Proofs.YtnpaejknoipicagGreat
open Go.RowKit
theorem chkFit_all (q : Nat → Bool) : ∀ (l : List Sk) (i : Nat), chkFit q i l = 0 → ∀ x ∈ l, x.chk = 0
 | [], _, _, x, hx => absurd hx List.not_mem_nil
 | y :: r, i, h, x, hx => by
  simp only [chkFit] at h
  by_cases hy : y.chk = 0
  ·rw [if_pos hy] at h
   cases hq : q i
   ·rw [hq] at h; simp at h
   ·rw [hq, if_pos rfl] at h
    rcases List.mem_cons.1 hx with rfl | hx
    ·exact hy
    ·exact chkFit_all q r (i + 1) h x hx
  ·rw [if_neg hy] at h; exact absurd h hy
def FitsR (g : Nat) (lb : Array Value) (q : Nat → Bool) (l : List Sk) (w : World) : Prop :=
 ∀ (W : World) (k : Nat), k < l.length → (∀ x ∈ l.take k, x.chk = 0) → Below w.heap.size w W → Calls Tryz.prog g (#[.int .i64 k] ++ lb) W fun e w' => e = .returned (.bool (q k)) ∧ Below W.heap.size W w'
set_option maxHeartbeats 1600000 in
theorem checkAllR_any (g : Nat) (lb : Array Value) (q : Nat → Bool) (eg : Enters Tryz.prog g) (v : Value) (l : List Sk) (w : World) (hv : Sls w v l) (hlen : l.length ≤ 9223372036854775807) (hq : FitsR g lb q l w) :
  Calls Tryz.prog 130 #[v, .func (.func g) #[] lb] w fun e w' => e = .returned (.int .i64 (chkFit q 0 l)) ∧ Below w.heap.size w w' := by
 obtain ⟨ao, c, rfl, hc⟩ := hv.parts
 have HC : Hid (∀ k, k < l.length → ∃ b off, ao = some ⟨b, off, none⟩ ∧ b < w.heap.size ∧ At7 w b (off + k * 7) (l[k]?.getD Sk.zero)) := hc
 have HQ : Hid (FitsR g lb q l w) := hq
 obtain ⟨n, hn⟩ : ∃ n, n = l.length := ⟨_, rfl⟩
 have HN : Hid (n = l.length) := hn
 have eg' : ∀ (args : Array Value) (w : World), (callFunc g args).run Tryz.prog w = .ok (.enter g args) w := eg
 rw [← hn] at hlen ⊢
 clear hc hv hn hq eg
 go_enter Tryz.func130, Tryz.ntmps130
 go_wp2
 go_loopw [10] (fun i wr => ∃ k : Nat, k ≤ n ∧ i = .int .i64 k ∧ Hid (chkFit q 0 (l.take k) = 0) ∧ Below w.heap.size w wr)
  (fun i _ => n - (intOf i).toNat)
 case atStart => exact ⟨0, Nat.zero_le _, rfl, (show chkFit q 0 (l.take 0) = 0 from rfl), Below.refl _ _⟩
 case round =>
  obtain ⟨k, hk, rfl, HK, hbel⟩ := hrel
  by_cases hlt : k < n
  ·obtain ⟨b, off, rfl, hb, hat⟩ := HC.out k (by rw [← HN.out]; exact hlt)
   obtain ⟨c0, c1, c2, c3, c4, c5, c6⟩ := hat.below hbel hb
   obtain ⟨x, hx⟩ : ∃ x, x = l[k]?.getD Sk.zero := ⟨_, rfl⟩
   rw [← hx] at c0 c1 c2 c3 c4 c5 c6
   have HX : Hid (x = l[k]?.getD Sk.zero) := hx
   clear hx hat
   obtain ⟨ch, hch⟩ : ∃ ch, ch = x.chk := ⟨_, rfl⟩
   have HCH : Hid (ch = x.chk) := hch
   have hck : ∀ w : World, Calls Tryz.prog 83 #[x.val] w fun e w' => e = .returned (.int .i64 ch) ∧ Below w.heap.size w w' := fun w => by rw [hch]; exact slotCheck_any x w
   clear hch
   obtain ⟨qk, hqk⟩ : ∃ qk, qk = q k := ⟨_, rfl⟩
   have HQK : Hid (qk = q k) := hqk
   have hfit : ∀ W : World, Below w.heap.size w W → Calls Tryz.prog g (#[.int .i64 k] ++ lb) W fun e w' => e = .returned (.bool qk) ∧ Below W.heap.size W w' := fun W hW => by rw [hqk]; exact HQ.out W k (by rw [← HN.out]; exact hlt) (chkFit_all _ _ _ HK.out) hW
   have HF : Hid (∀ W : World, Below w.heap.size w W → Calls Tryz.prog g (#[.int .i64 k] ++ lb) W fun e w' => e = .returned (.bool qk) ∧ Below W.heap.size W w') := hfit
   clear hqk hfit
   obtain ⟨xn, seq, time, xf, xe, xk, xt⟩ := x
   simp only [Sk.val] at hck c0 c1 c2 c3 c4 c5 c6
   have HB : Hid (Below w.heap.size w wr) := hbel
   clear hbel
   by_cases h0 : ch = 0
   ·subst h0
    cases qk
    ·go_wp2_with (first
      | (go_at_call 83; refine (hck _).mono ?_; rintro e w1 ⟨rfl, hbw⟩; have HB1 : Hid (Below w.heap.size w w1) := HB.out.trans (((Below.refl _ _).alloc HB.out.size _).trans (hbw.mono (by have := HB.out.size; simp; omega))))
      | (go_at_fn g; refine (HF.out _ HB1.out).mono ?_; rintro e w2 ⟨rfl, hbw2⟩))
     go_ret
     exact ⟨by rw [chkFit_no2 (by rw [← HN.out]; exact hlt) HK.out (by rw [← HX.out]; exact HCH.out.symm) HQK.out.symm]; rfl, HB1.out.trans (hbw2.mono HB1.out.size)⟩
    ·go_wp2_with (first
      | (go_at_call 83; refine (hck _).mono ?_; rintro e w1 ⟨rfl, hbw⟩; have HB1 : Hid (Below w.heap.size w w1) := HB.out.trans (((Below.refl _ _).alloc HB.out.size _).trans (hbw.mono (by have := HB.out.size; simp; omega))))
      | (go_at_fn g; refine (HF.out _ HB1.out).mono ?_; rintro e w2 ⟨rfl, hbw2⟩))
     go_roundw
     case rel => exact ⟨k + 1, by omega, by go_num, (show chkFit q 0 (l.take (k + 1)) = 0 from chkFit_ok (by rw [← HN.out]; exact hlt) HK.out (by rw [← HX.out]; exact HCH.out.symm) HQK.out.symm), HB1.out.trans (hbw2.mono HB1.out.size)⟩
     case measure => simp [intOf]; omega
   ·go_wp2_with (go_at_call 83; refine (hck _).mono ?_; rintro e w' ⟨rfl, hbw⟩)
    go_ret
    exact ⟨by rw [chkFit_no1 (by rw [← HN.out]; exact hlt) HK.out (by rw [← HX.out, ← HCH.out]; exact h0), ← HX.out, ← HCH.out]; rfl, HB.out.trans (((Below.refl _ _).alloc HB.out.size _).trans (hbw.mono (by have := HB.out.size; simp; omega)))⟩
  ·have hkl : k = n := by omega
   subst hkl
   go_wp2
   go_ret
   have hk0 := HK.out
   rw [HN.out, List.take_length] at hk0
   rw [hk0]
   exact ⟨rfl, hbel⟩
set_option maxHeartbeats 400000 in
theorem begunLit_fits (v : Value) (l : List Sk) (B : Nat) (w : World) (hB : Blk w B #[v] 26) (hv : Sls w v l) (hlen : l.length ≤ 9223372036854775807) :
  FitsR 170 #[.pointer (some ⟨B, 0, none⟩)] (qO l) l w := fun W k hk hok hb => by
 have hBW := hB.below hb hB.lt
 have c0 := hBW.one
 have hcall := isBegun_any v l k W (hv.below hb) hk hlen (fun h0 => by
  have hk1 : k - 1 < l.length := by omega
  rw [List.getElem?_eq_getElem hk1, Option.getD_some]
  have := Sk.chk_zero (hok l[k - 1] (by
   rw [List.mem_iff_getElem]
   exact ⟨k - 1, by simp; omega, by simp⟩))
  omega)
 obtain ⟨q, hq⟩ : ∃ q, q = qO l k := ⟨_, rfl⟩
 rw [← hq] at hcall ⊢
 obtain ⟨a, c, rfl⟩ := hv.len
 clear hq hBW hB hv hok
 show Calls Tryz.prog 170 #[.int .i64 k, .pointer (some ⟨B, 0, none⟩)] W _
 go_enter Tryz.func170, Tryz.ntmps170
 go_wp2_with (go_at_call 171; refine hcall.mono ?_; rintro e w1 ⟨rfl, hbw⟩)
 go_ret
 exact ⟨rfl, hbw⟩
set_option maxHeartbeats 1000000 in
theorem checkBuilder_any (v : Value) (l : List Sk) (w : World) (hv : Sls w v l) (hlen : l.length ≤ 9223372036854775807) :
  Calls Tryz.prog 156 #[.agg #[v]] w fun e w' => e = .returned (.int .i64 (ochk l)) ∧ Below w.heap.size w w' := by
 obtain ⟨a, c, hva⟩ := hv.len
 obtain ⟨n, hn⟩ : ∃ n, n = l.length := ⟨_, rfl⟩
 rw [← hn] at hva
 have hr : ochk l = if 4 ≤ n then 2 else ogo none l := by rw [hn]; rfl
 rw [hr]
 have hln : n ≤ 9223372036854775807 := by omega
 have hcA : Calls Tryz.prog 130 #[v, .func (.func 170) #[] #[.pointer (some ⟨w.heap.size, 0, none⟩)]] (w.alloc (.cells #[v] 26)) fun e w' => e = .returned (.int .i64 (ogo none l)) ∧ Below (w.alloc (.cells #[v] 26)).heap.size (w.alloc (.cells #[v] 26)) w' := by
  rw [← fit_open]
  exact checkAllR_any 170 #[.pointer (some ⟨w.heap.size, 0, none⟩)] (qO l) (enters_of Tryz.func170 (by kernel_rfl) rfl) v l _ (hv.alloc _) hlen (begunLit_fits v l w.heap.size _ (Blk.new w _ _) (hv.alloc _) hlen)
 obtain ⟨r, hrr⟩ : ∃ r, r = ogo none l := ⟨_, rfl⟩
 rw [← hrr] at hcA ⊢
 have HA : Hid (Calls Tryz.prog 130 #[v, .func (.func 170) #[] #[.pointer (some ⟨w.heap.size, 0, none⟩)]] (w.alloc (.cells #[v] 26)) fun e w' => e = .returned (.int .i64 r) ∧ Below (w.alloc (.cells #[v] 26)).heap.size (w.alloc (.cells #[v] 26)) w') := hcA
 clear hr hrr hcA hv hn hlen
 subst hva
 by_cases h4 : 4 ≤ n
 ·rw [if_pos h4]
  go_enter Tryz.func156, Tryz.ntmps156
  go_wp2
  go_ret
  exact ⟨rfl, by go_grown⟩
 ·rw [if_neg h4]
  go_enter Tryz.func156, Tryz.ntmps156
  go_wp2_with fail
  refine HA.out.mono ?_
  rintro e w1 ⟨rfl, hb1⟩
  have B1 : Hid (Below w.heap.size w w1) := ((Below.refl _ w).alloc (Nat.le_refl _) _).trans (hb1.mono (by simp))
  clear hb1
  go_wp2
  go_ret
  exact ⟨rfl, B1.out⟩
def addE (l : List Sk) (x : Sk) : Int := if ochk l = 0 then x.chk else ochk l
theorem frameAdd_bad (v : Value) (l : List Sk) (x : Sk) (w : World) (hv : Sls w v l) (hlen : l.length ≤ 9223372036854775807) (hE : ¬ addE l x = 0) :
  Calls Tryz.prog 133 #[.agg #[v], x.val] w fun e w' => e = .returned (.tuple #[.agg #[.slice none 0 0], .agg #[.int .i64 0, .bool false, .slice none 0 0], .bool false, .int .i64 (addE l x)]) ∧ Below w.heap.size w w' :=
 frameAdd_no (ochk l) v l x w hv (fun w' hs => checkBuilder_any v l w' hs hlen) (addE l x) rfl hE
theorem addE_zero {l : List Sk} {x : Sk} (h : addE l x = 0) : ochk l = 0 ∧ x.chk = 0 ∧ l.length ≤ 3 ∧ ∀ y ∈ l, y.chk = 0 := by
 unfold addE at h
 by_cases h0 : ochk l = 0
 ·rw [if_pos h0] at h
  have h1 := h0
  unfold ochk at h1
  by_cases h4 : 4 ≤ l.length
  ·rw [if_pos h4] at h1; omega
  ·rw [if_neg h4] at h1
   exact ⟨h0, h, by omega, ogo_all l none h1⟩
 ·rw [if_neg h0] at h; exact absurd h h0
theorem frameAdd_good (v : Value) (l : List Sk) (x : Sk) (w : World) (hv : Sls w v l) (hE : addE l x = 0) :
  Calls Tryz.prog 133 #[.agg #[v], x.val] w fun e w' => ∃ ov pv, e = .returned (.tuple #[.agg #[ov], .agg #[.int .i64 (addT l x), .bool (addK l x), pv], .bool (addW l x), .int .i64 0]) ∧
   (Sls w' ov (addO l x) ∧ Strs w' pv (addP l x) ∧ (∀ g, ov.ownBlock = some g → w.heap.size ≤ g ∧ g < w'.heap.size) ∧ ∀ g, pv.ownBlock = some g → w.heap.size ≤ g ∧ g < w'.heap.size) ∧ Below w.heap.size w w' := by
 obtain ⟨h0, hx, h3, hl⟩ := addE_zero hE
 exact frameAdd_ok v l x w hv (fun w' hs => by rw [← h0]; exact checkBuilder_any v l w' hs (by omega)) h3 hl hx
structure AddR where
 o : List Sk
 t : Int
 k : Bool
 p : List ByteArray
 b : Bool
def addR (l : List Sk) (x : Sk) : AddR := if addE l x = 0 then ⟨addO l x, addT l x, addK l x, addP l x, addW l x⟩ else ⟨[], 0, false, [], false⟩
theorem frameAdd_any (v : Value) (l : List Sk) (x : Sk) (w : World) (hv : Sls w v l) (hlen : l.length ≤ 9223372036854775807) :
  Calls Tryz.prog 133 #[.agg #[v], x.val] w fun e w' => ∃ ov pv, e = .returned (.tuple #[.agg #[ov], .agg #[.int .i64 (addR l x).t, .bool (addR l x).k, pv], .bool (addR l x).b, .int .i64 (addE l x)]) ∧
   (Sls w' ov (addR l x).o ∧ Strs w' pv (addR l x).p ∧ (∀ g, ov.ownBlock = some g → w.heap.size ≤ g ∧ g < w'.heap.size) ∧ ∀ g, pv.ownBlock = some g → w.heap.size ≤ g ∧ g < w'.heap.size) ∧ Below w.heap.size w w' := by
 by_cases hE : addE l x = 0
 ·have hr : addR l x = ⟨addO l x, addT l x, addK l x, addP l x, addW l x⟩ := by unfold addR; rw [if_pos hE]
  rw [hr, hE]
  exact frameAdd_good v l x w hv hE
 ·have hr : addR l x = ⟨[], 0, false, [], false⟩ := by unfold addR; rw [if_neg hE]
  rw [hr]
  refine (frameAdd_bad v l x w hv hlen hE).mono ?_
  rintro e w' ⟨rfl, hb⟩
  exact ⟨_, _, rfl, ⟨Sls.nil _, Strs.nil _, fun g hg => by simp [Value.ownBlock] at hg, fun g hg => by simp [Value.ownBlock] at hg⟩, hb⟩
end Go.Proofs.YtnpaejknoipicagGreat
