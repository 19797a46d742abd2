/-
  Contract: the sender's send.
-/
import Derived.Test.YtnpaejknoipicafOutWalk2
import Derived.Test.YtnpaejknoipicafPktRows
import Derived.Test.YtnpaejknoipicafRegChainG
import Derived.Test.YtnpaejknoipicafStrClone
import Derived.Test.YtnpaejknoipicafGroupPlain
import Derived.Test.YtnpaejknoipicafStayK
import Derived.Deep.DeepCutAuto
namespace Go.Proofs.Ytnpaejknoipicaf
open Go.RowKit

set_option maxHeartbeats 8000000 in
set_option maxRecDepth 100000 in
theorem send_any (M : Nat) (l t s0 : Int) (f : Fr) (pa : Option Addr) (pc : Nat) (w : World) (hM : Blk w M #[.int .i64 l, .int .i64 t, .int .i64 s0] 65) (hp : StrsIn (fun g => g ≠ M) w (.slice pa f.parts.length pc) f.parts) (hf : f.chk = 0) (hs0 : -3000000 ≤ s0) (hs1 : s0 ≤ 3000000) (hl0 : 0 ≤ l) (hl1 : l ≤ 1000000000) :
    Calls Try.prog 27 #[.pointer (some ⟨M, 0, none⟩), .agg #[.int .i64 f.time, .bool f.key, .slice pa f.parts.length pc]] w fun e w' => ∃ v, e = .returned v ∧ w'.ownsRow (w.heap.size + 1) 38 6 v f.parts.length (pkCells (pksOf l (f.time + s0) f.key f.parts)) ∧ Blk w' M #[.int .i64 (l + f.parts.length), .int .i64 (f.time + s0), .int .i64 s0] 65 ∧ Kept [M] w w' := by
  obtain ⟨c1, c2, c3, c4, c5⟩ := chkF_zero hf
  obtain ⟨ft, hft⟩ : ∃ x, x = f.time := ⟨_, rfl⟩
  obtain ⟨fk, hfk⟩ : ∃ x, x = f.key := ⟨_, rfl⟩
  obtain ⟨ps, hps⟩ : ∃ x, x = f.parts := ⟨_, rfl⟩
  rw [← hps] at c3 c4 c5 hp
  rw [← hft] at c1 c2
  obtain ⟨n, hn⟩ : ∃ x, x = ps.length := ⟨_, rfl⟩
  rw [← hft, ← hfk, ← hps, ← hn]
  rw [← hn] at c3 c4 hp
  have HN : Hid (n = ps.length) := hn
  have HP8 : Hid (∀ s ∈ ps, s.size ≤ 8) := c5
  obtain ⟨T, hT⟩ : ∃ x, x = ft + s0 := ⟨_, rfl⟩
  have HT : Hid (T = ft + s0) := hT
  obtain ⟨base, hbase⟩ : ∃ x, x = w.heap.size + 1 := ⟨_, rfl⟩
  rw [← hT, ← hbase]
  obtain ⟨W0, hW0⟩ : ∃ W0, W0 = w.alloc (.cells #[.int .i64 ft, .bool fk, .slice pa n pc] 26) := ⟨_, rfl⟩
  have hMl0 := hM.lt
  have hM0 : Blk W0 M #[.int .i64 l, .int .i64 t, .int .i64 s0] 65 := by rw [hW0]; exact hM.alloc _
  have hF0 : Blk W0 w.heap.size #[.int .i64 ft, .bool fk, .slice pa n pc] 26 := Blk.newE hW0
  have hP0 : StrsIn (fun g => g ≠ M) W0 (.slice pa n pc) ps := by rw [hW0]; exact hp.alloc _
  have HS0 : Hid (StayK [M] W0 (fun U => Blk U w.heap.size #[.int .i64 ft, .bool fk, .slice pa n pc] 26 ∧ StrsIn (fun g => g ≠ M) U (.slice pa n pc) ps)) := (hF0.stayK (by simp; omega)).and (hP0.stayK (fun g hg => by simpa using hg))
  have HZ0 : Hid (W0.heap.size = base ∧ Below w.heap.size w W0) := ⟨by rw [hW0, hbase]; simp, by rw [hW0]; exact (Below.refl _ w).alloc (Nat.le_refl _) _⟩
  have HB0 : Hid (base = w.heap.size + 1) := hbase
  clear hft hfk hps hn hM hp hF0 hP0 hf c5 hT hbase
  obtain ⟨j0, j1, j2⟩ := HS0.out.now.1.three
  go_enter Try.func27, Try.ntmps27
  go_wp2_with fail
  rw [← hW0]
  refine (timeOf_any M l t s0 ft fk pa n pc W0 hM0 c1 c2 hs0 hs1).mono ?_
  rw [← HT.out]
  rintro e w1 ⟨rfl, b1⟩
  have hM1 := hM0.below b1 hM0.lt
  have fM := hM1.free 1
  obtain ⟨W2, hW2⟩ : ∃ W2, W2 = w1.setCell ⟨M, 1, none⟩ (.int .i64 T) := ⟨_, rfl⟩
  have HM2 : Hid (Blk W2 M #[.int .i64 (l + (0 : Nat)), .int .i64 T, .int .i64 s0] 65) := by
    have := hM1.set 1 (.int .i64 T)
    rw [hW2]; simpa [Hid] using this
  have HK2 : Hid (Kept [M] W0 W2) := by rw [hW2]; exact ((Kept.refl [M] W0).below b1).setCell (p := ⟨M, 1, none⟩) (by simp) _
  obtain ⟨q0, q1, q2⟩ := hM1.three
  have HS2 := StayK.goK HS0 HK2.out
  obtain ⟨p0, p1, p2⟩ := HS2.out.now.1.three
  clear b1 hM0 hM1 hW0 j0 j1 j2
  go_upto_region 3 with fail
  rw [← hW2]
  clear hW2 q0 q1 q2 fM
  go_wp2_with fail
  clear p0 p1 p2
  go_loopw [5, 18] (fun v i wr => ∃ k : Nat, k ≤ n ∧ i = .int .i64 k ∧ Hid (Blk wr M #[.int .i64 (l + k), .int .i64 T, .int .i64 s0] 65) ∧ Hid (wr.ownsRow base 38 6 v k (pkCells (pksK l T fk ps k))) ∧ Hid (Kept [M] W0 wr))
    (fun _ i _ => n - (intOf i).toNat)
  case atStart => exact ⟨0, Nat.zero_le _, rfl, HM2.out, World.ownsRow_nil _ _ _ _, HK2.out⟩
  case round =>
    obtain ⟨k, hk, rfl, HM, HO, HK⟩ := hrel
    clear HM2 HK2 HS2
    have HSr := StayK.goK HS0 HK.out
    by_cases hlt : k < n
    · have hlti : (k : Int) < (n : Int) := by omega
      obtain ⟨po, pcc, ep, hpc⟩ := HSr.out.now.2.1.parts
      rw [← HN.out] at ep
      injection ep with ep1 ep2 ep3
      clear ep2
      subst ep1 ep3
      obtain ⟨b, off, e1, hb, hcx⟩ := hpc k (by rw [← HN.out]; exact hlt)
      obtain ⟨x, hx⟩ : ∃ x, x = ps[k]?.getD ByteArray.empty := ⟨_, rfl⟩
      rw [← hx] at hcx
      have hx8 : x.size ≤ 8 := by
        rw [hx, List.getElem?_eq_getElem (by rw [← HN.out]; exact hlt), Option.getD_some]
        exact HP8.out _ (List.getElem_mem _)
      obtain ⟨lk, hlk⟩ : ∃ y, y = l + (k : Int) + 1 := ⟨_, rfl⟩
      obtain ⟨sq, hsq⟩ : ∃ y, y = lk % 65536 := ⟨_, rfl⟩
      obtain ⟨z, hz⟩ : ∃ y, y = ((k : Int) == 0) := ⟨_, rfl⟩
      obtain ⟨en, hen⟩ : ∃ y, y = ((k : Int) == (n : Int) - 1) := ⟨_, rfl⟩
      obtain ⟨PL, hPL⟩ : ∃ y, y = pksK l T fk ps k := ⟨_, rfl⟩
      have HPK : Hid (pksK l T fk ps (k + 1) = PL ++ [⟨sq, T, z, en, z && fk, x⟩]) := by
        show _ = _
        rw [pksK_succ, ← hPL]
        unfold pkAt
        rw [← hx, hsq, hlk, hz, hen, ← HN.out, show l + (k : Int) + 1 = l + 1 + k by omega]
        have e1 : (k == 0) = ((k : Int) == 0) := by rw [Bool.eq_iff_iff]; simp
        have e2 : (k == n - 1) = ((k : Int) == (n : Int) - 1) := by rw [Bool.eq_iff_iff]; simp; omega
        rw [e1, e2]
      have HLK : Hid (lk = l + ((k + 1 : Nat) : Int)) := by show _ = _; rw [hlk]; omega
      have HO' := HO.out
      rw [← hPL] at HO'
      obtain ⟨m0, m1, m2⟩ := HM.out.three
      have fM := HM.out.free 0
      obtain ⟨WR, hWR⟩ : ∃ W, W = wr.setCell ⟨M, 0, none⟩ (.int .i64 lk) := ⟨_, rfl⟩
      have KMR : Hid (Blk WR M #[.int .i64 lk, .int .i64 T, .int .i64 s0] 65) := by
        have := HM.out.set 0 (.int .i64 lk)
        rw [hWR]; simpa [Hid] using this
      have HKR : Hid (Kept [M] W0 WR) := by rw [hWR]; exact HK.out.setCell (p := ⟨M, 0, none⟩) (by simp) _
      have hbw := HB0.out
      have HOW : Hid (WR.ownsRow base 38 6 u5 k (pkCells PL)) := by rw [hWR]; exact ownsRow_setCell_below HO' (by show M < base; omega) _
      have hWRs : base ≤ WR.heap.size := by have := HKR.out.size; have := HZ0.out.1; omega
      obtain ⟨p0, p1, p2⟩ := (StayK.goK HS0 HKR.out).out.now.1.three
      obtain ⟨q0, q1, q2⟩ := KMR.out.three
      have hMl : M < WR.heap.size := KMR.out.lt
      have hFl : w.heap.size < WR.heap.size := (StayK.goK HS0 HKR.out).out.now.1.lt
      have hMu : some M ≠ u5.ownBlock := fun e => by have := (HOW.out.lt M e.symm).1; omega
      have hFu : some w.heap.size ≠ u5.ownBlock := fun e => by have := (HOW.out.lt _ e.symm).1; omega
      have hlks : l + (k : Int) + 1 = lk := hlk.symm
      subst e1
      clear hpc hb hx hPL HO' HO HM hlk
      go_upto_region 7 with fail
      rw [← hWR]
      clear hWR m0 m1 m2 fM hcx hlks
      have hrem : lk.tmod 65536 = sq := by
        rw [hsq, Int.tmod_eq_emod_of_nonneg]
        have := HLK.out; omega
      have hsub : IntKind.i64.wrap ((n : Int) - 1) = (n : Int) - 1 := by rw [IntKind.wrap_i64]; omega
      have hz' : ((k : Int) == 0) = z := hz.symm
      have hen' : ((k : Int) == (n : Int) - 1) = en := hen.symm
      clear hz hen hsq
      have hz := hz'
      have hen := hen'
      clear hz' hen'
      cases z
      case false =>
        refine region_chainG (by kernel_rfl) (by kernel_rfl) [.quiet (u5) 5, .quiet (.pointer (some ⟨M, 0, none⟩)) 5, .quiet (.pointer (some ⟨M, 0, none⟩)) 5, .quiet (.pointer (some ⟨M, 0, none⟩)) 5, .quiet (.pointer (some ⟨M, 0, none⟩)) 5, .quiet (.int .i64 lk) 5, .quiet (.int .i64 sq) 5, .quiet (.pointer (some ⟨M, 0, none⟩)) 5, .quiet (.pointer (some ⟨M, 0, none⟩)) 5, .quiet (.pointer (some ⟨M, 0, none⟩)) 5, .quiet (.pointer (some ⟨M, 1, none⟩)) 5, .quiet (.int .i64 T) 5, .quiet (.int .i64 k) 5, .quiet (.bool false) 5, .quiet (.int .i64 k) 5, .quiet (.pointer (some ⟨w.heap.size, 2, none⟩)) 5, .quiet (.slice (some ⟨b, off, none⟩) n pc) 5, .quiet (.int .i64 n) 5, .quiet (.int .i64 (n - 1)) 5, .quiet (.bool en) 5, .quiet (.int .i64 k) 5, .quiet (.bool false) 5, .quiet (.bool false) 5, .quiet (undef) 5, .quiet (undef) 5, .quiet (.bool false) 5, .quiet (.string x) 5, .step 0, .step 1, .step 2, .step 3, .step 4] [27, 28, 29, 30, 31] (by kernel_rfl)
          (fun s r w' => match s with
            | 0 => Below WR.heap.size WR w'
            | 1 => r 0 = .string x ∧ Below WR.heap.size WR w'
            | 2 => r 1 = (Pk.val ⟨sq, T, false, en, false, x⟩) ∧ Below WR.heap.size WR w'
            | 3 => ∃ V, Below WR.heap.size WR V ∧ w' = V.alloc (.cells (Pk.cells ⟨sq, T, false, en, false, x⟩) 38) ∧ r 2 = .slice (some ⟨V.heap.size, 0, none⟩) 1 1
            | 4 => ∃ V, Below WR.heap.size WR V ∧ w'.ownsRow base 38 6 (r 3) (k + 1) (pkCells (PL ++ [⟨sq, T, false, en, false, x⟩])) ∧ (V.alloc (.cells (Pk.cells ⟨sq, T, false, en, false, x⟩) 38)).grownBy w' u5.ownBlock
            | _ => ∃ V, Below WR.heap.size WR V ∧ w'.ownsRow base 38 6 (r 4) (k + 1) (pkCells (PL ++ [⟨sq, T, false, en, false, x⟩])) ∧ (V.alloc (.cells (Pk.cells ⟨sq, T, false, en, false, x⟩) 38)).grownBy w' u5.ownBlock
            ) ((Below.refl _ WR).drew) ?step ?fin
        case step =>
          intro i o ho a' w' s r hI hfree hvals
          have hcell : ∀ a : Addr, a.block < WR.heap.size → some a.block ≠ u5.ownBlock → w'.cell? a = WR.cell? a := fun a ha hne => by
            match s, hI with
            | 0, hI => exact Below.cell hI ha
            | 1, ⟨_, hI⟩ => exact Below.cell hI ha
            | 2, ⟨_, hI⟩ => exact Below.cell hI ha
            | 3, ⟨V, hI, hw, _⟩ => rw [hw]; exact Below.cell (hI.alloc hI.size _) ha
            | 4, ⟨V, hI, _, hg⟩ => exact (grown_cell hg (by simp; have := hI.size; omega) hne).trans (Below.cell (hI.alloc hI.size _) ha)
            | n + 5, ⟨V, hI, _, hg⟩ => exact (grown_cell hg (by simp; have := hI.size; omega) hne).trans (Below.cell (hI.alloc hI.size _) ha)
          have y0 := (hcell ⟨M, 0, none⟩ hMl hMu).trans q0
          have y1 := (hcell ⟨M, 1, none⟩ hMl hMu).trans q1
          have z1 := (hcell ⟨w.heap.size, 1, none⟩ hFl hFu).trans p1
          have z2 := (hcell ⟨w.heap.size, 2, none⟩ hFl hFu).trans p2
          clear hcell
          match i, ho with
          | 0, ho =>
            simp at ho; subst ho
            have e5 : a'.eval (.tmp 5) = u5 := (hfree 5 (by kernel_rfl)).trans rfl
            show s ≤ 5 → _
            intro hs
            refine .inl ⟨rfl, ?_⟩
            generalize a'.eval = ρ at *
            simp [execOp, go_sem, e5]
          | 1, ho =>
            simp at ho; subst ho
            have e0 : a'.eval (.tmp 0) = .pointer (some ⟨M, 0, none⟩) := (hfree 0 (by kernel_rfl)).trans rfl
            show s ≤ 5 → _
            intro hs
            refine .inl ⟨rfl, ?_⟩
            generalize a'.eval = ρ at *
            simp [execOp, go_sem, e0]
          | 2, ho =>
            simp at ho; subst ho
            have e33 : a'.eval (.tmp 33) = .pointer (some ⟨M, 0, none⟩) := hvals 1 _ _ (by kernel_rfl) rfl rfl
            show s ≤ 5 → _
            intro hs
            refine .inl ⟨rfl, ?_⟩
            generalize a'.eval = ρ at *
            simp [execOp, go_sem, e33]
          | 3, ho =>
            simp at ho; subst ho
            have e34 : a'.eval (.tmp 34) = .pointer (some ⟨M, 0, none⟩) := hvals 2 _ _ (by kernel_rfl) rfl rfl
            show s ≤ 5 → _
            intro hs
            refine .inl ⟨rfl, ?_⟩
            generalize a'.eval = ρ at *
            simp [execOp, go_sem, e34]
          | 4, ho =>
            simp at ho; subst ho
            have e35 : a'.eval (.tmp 35) = .pointer (some ⟨M, 0, none⟩) := hvals 3 _ _ (by kernel_rfl) rfl rfl
            show s ≤ 5 → _
            intro hs
            refine .inl ⟨rfl, ?_⟩
            generalize a'.eval = ρ at *
            simp [execOp, go_sem, e35]
          | 5, ho =>
            simp at ho; subst ho
            have e36 : a'.eval (.tmp 36) = .pointer (some ⟨M, 0, none⟩) := hvals 4 _ _ (by kernel_rfl) rfl rfl
            show s ≤ 5 → _
            intro hs
            refine .inl ⟨rfl, ?_⟩
            generalize a'.eval = ρ at *
            simp [execOp, go_sem, e36, y0]
          | 6, ho =>
            simp at ho; subst ho
            have e37 : a'.eval (.tmp 37) = .int .i64 lk := hvals 5 _ _ (by kernel_rfl) rfl rfl
            have ec0 : a'.eval (.const (.int .i64 65536)) = .int .i64 65536 := rfl
            show s ≤ 5 → _
            intro hs
            refine .inl ⟨rfl, ?_⟩
            generalize a'.eval = ρ at *
            simp [execOp, go_sem, e37, ec0, hrem]
          | 7, ho =>
            simp at ho; subst ho
            have e0 : a'.eval (.tmp 0) = .pointer (some ⟨M, 0, none⟩) := (hfree 0 (by kernel_rfl)).trans rfl
            show s ≤ 5 → _
            intro hs
            refine .inl ⟨rfl, ?_⟩
            generalize a'.eval = ρ at *
            simp [execOp, go_sem, e0]
          | 8, ho =>
            simp at ho; subst ho
            have e39 : a'.eval (.tmp 39) = .pointer (some ⟨M, 0, none⟩) := hvals 7 _ _ (by kernel_rfl) rfl rfl
            show s ≤ 5 → _
            intro hs
            refine .inl ⟨rfl, ?_⟩
            generalize a'.eval = ρ at *
            simp [execOp, go_sem, e39]
          | 9, ho =>
            simp at ho; subst ho
            have e40 : a'.eval (.tmp 40) = .pointer (some ⟨M, 0, none⟩) := hvals 8 _ _ (by kernel_rfl) rfl rfl
            show s ≤ 5 → _
            intro hs
            refine .inl ⟨rfl, ?_⟩
            generalize a'.eval = ρ at *
            simp [execOp, go_sem, e40]
          | 10, ho =>
            simp at ho; subst ho
            have e41 : a'.eval (.tmp 41) = .pointer (some ⟨M, 0, none⟩) := hvals 9 _ _ (by kernel_rfl) rfl rfl
            show s ≤ 5 → _
            intro hs
            refine .inl ⟨rfl, ?_⟩
            generalize a'.eval = ρ at *
            simp [execOp, go_sem, e41]
          | 11, ho =>
            simp at ho; subst ho
            have e42 : a'.eval (.tmp 42) = .pointer (some ⟨M, 1, none⟩) := hvals 10 _ _ (by kernel_rfl) rfl rfl
            show s ≤ 5 → _
            intro hs
            refine .inl ⟨rfl, ?_⟩
            generalize a'.eval = ρ at *
            simp [execOp, go_sem, e42, y1]
          | 12, ho =>
            simp at ho; subst ho
            have e6 : a'.eval (.tmp 6) = .int .i64 k := (hfree 6 (by kernel_rfl)).trans rfl
            show s ≤ 5 → _
            intro hs
            refine .inl ⟨rfl, ?_⟩
            generalize a'.eval = ρ at *
            simp [execOp, go_sem, e6]
          | 13, ho =>
            simp at ho; subst ho
            have e44 : a'.eval (.tmp 44) = .int .i64 k := hvals 12 _ _ (by kernel_rfl) rfl rfl
            have ec0 : a'.eval (.const (.int .i64 0)) = .int .i64 0 := rfl
            show s ≤ 5 → _
            intro hs
            refine .inl ⟨rfl, ?_⟩
            generalize a'.eval = ρ at *
            simp [execOp, go_sem, e44, ec0, hz]
          | 14, ho =>
            simp at ho; subst ho
            have e6 : a'.eval (.tmp 6) = .int .i64 k := (hfree 6 (by kernel_rfl)).trans rfl
            show s ≤ 5 → _
            intro hs
            refine .inl ⟨rfl, ?_⟩
            generalize a'.eval = ρ at *
            simp [execOp, go_sem, e6]
          | 15, ho =>
            simp at ho; subst ho
            have e3 : a'.eval (.tmp 3) = .pointer (some ⟨w.heap.size, 0, none⟩) := (hfree 3 (by kernel_rfl)).trans rfl
            show s ≤ 5 → _
            intro hs
            refine .inl ⟨rfl, ?_⟩
            generalize a'.eval = ρ at *
            simp [execOp, go_sem, e3]
          | 16, ho =>
            simp at ho; subst ho
            have e47 : a'.eval (.tmp 47) = .pointer (some ⟨w.heap.size, 2, none⟩) := hvals 15 _ _ (by kernel_rfl) rfl rfl
            show s ≤ 5 → _
            intro hs
            refine .inl ⟨rfl, ?_⟩
            generalize a'.eval = ρ at *
            simp [execOp, go_sem, e47, z2]
          | 17, ho =>
            simp at ho; subst ho
            have e48 : a'.eval (.tmp 48) = .slice (some ⟨b, off, none⟩) n pc := hvals 16 _ _ (by kernel_rfl) rfl rfl
            show s ≤ 5 → _
            intro hs
            refine .inl ⟨rfl, ?_⟩
            generalize a'.eval = ρ at *
            simp [go_sem, e48]
          | 18, ho =>
            simp at ho; subst ho
            have e49 : a'.eval (.tmp 49) = .int .i64 n := hvals 17 _ _ (by kernel_rfl) rfl rfl
            have ec0 : a'.eval (.const (.int .i64 1)) = .int .i64 1 := rfl
            show s ≤ 5 → _
            intro hs
            refine .inl ⟨rfl, ?_⟩
            generalize a'.eval = ρ at *
            simp [execOp, go_sem, e49, ec0, hsub]
          | 19, ho =>
            simp at ho; subst ho
            have e46 : a'.eval (.tmp 46) = .int .i64 k := hvals 14 _ _ (by kernel_rfl) rfl rfl
            have e50 : a'.eval (.tmp 50) = .int .i64 (n - 1) := hvals 18 _ _ (by kernel_rfl) rfl rfl
            show s ≤ 5 → _
            intro hs
            refine .inl ⟨rfl, ?_⟩
            generalize a'.eval = ρ at *
            simp [execOp, go_sem, e46, e50, hen]
          | 20, ho =>
            simp at ho; subst ho
            have e6 : a'.eval (.tmp 6) = .int .i64 k := (hfree 6 (by kernel_rfl)).trans rfl
            show s ≤ 5 → _
            intro hs
            refine .inl ⟨rfl, ?_⟩
            generalize a'.eval = ρ at *
            simp [execOp, go_sem, e6]
          | 21, ho =>
            simp at ho; subst ho
            have e52 : a'.eval (.tmp 52) = .int .i64 k := hvals 20 _ _ (by kernel_rfl) rfl rfl
            have ec0 : a'.eval (.const (.int .i64 0)) = .int .i64 0 := rfl
            show s ≤ 5 → _
            intro hs
            refine .inl ⟨rfl, ?_⟩
            generalize a'.eval = ρ at *
            simp [execOp, go_sem, e52, ec0, hz]
          | 22, ho =>
            simp at ho; subst ho
            have e53 : a'.eval (.tmp 53) = .bool false := hvals 21 _ _ (by kernel_rfl) rfl rfl
            show s ≤ 5 → _
            intro hs
            refine .inl ⟨rfl, ?_⟩
            generalize a'.eval = ρ at *
            simp [execOp, go_sem, e53]
          | 23, ho =>
            simp at ho; subst ho
            have e3 : a'.eval (.tmp 3) = .pointer (some ⟨w.heap.size, 0, none⟩) := (hfree 3 (by kernel_rfl)).trans rfl
            show s ≤ 5 → _
            intro hs
            have hg : a'.eval (.tmp 54) = .bool false := hvals 22 _ _ (by kernel_rfl) rfl rfl
            have hy := tmps_of hg
            exact .inr ⟨by simp [Region.wanted, yielded, hy], rfl⟩
          | 24, ho =>
            simp at ho; subst ho
            have e55 : a'.eval (.tmp 55) = undef := hvals 23 _ _ (by kernel_rfl) rfl rfl
            show s ≤ 5 → _
            intro hs
            have hg : a'.eval (.tmp 54) = .bool false := hvals 22 _ _ (by kernel_rfl) rfl rfl
            have hy := tmps_of hg
            exact .inr ⟨by simp [Region.wanted, yielded, hy], rfl⟩
          | 25, ho =>
            simp at ho; subst ho
            have e54 : a'.eval (.tmp 54) = .bool false := hvals 22 _ _ (by kernel_rfl) rfl rfl
            have e56 : a'.eval (.tmp 56) = undef := hvals 24 _ _ (by kernel_rfl) rfl rfl
            have ec0 : a'.eval (.const (.bool false)) = .bool false := rfl
            show s ≤ 5 → _
            intro hs
            refine .inl ⟨rfl, ?_⟩
            generalize a'.eval = ρ at *
            simp [execOp, go_sem, e54, e56, ec0]
          | 26, ho =>
            simp at ho; subst ho
            have e7 : a'.eval (.tmp 7) = .string x := (hfree 7 (by kernel_rfl)).trans rfl
            show s ≤ 5 → _
            intro hs
            refine .inl ⟨rfl, ?_⟩
            generalize a'.eval = ρ at *
            simp [execOp, go_sem, e7]
          | 27, ho =>
            simp at ho; subst ho
            have e58 : a'.eval (.tmp 58) = .string x := hvals 26 _ _ (by kernel_rfl) rfl rfl
            show s = 0 → _ ∧ Oper.wp _ _ _ _ _ _
            intro hs
            subst hs
            refine ⟨rfl, ?_⟩
            have ef : a'.eval (.func 51) = .func (.func 51) #[] #[] := rfl
            have hB : Below WR.heap.size WR w' := hI
            refine oper_wp_call (f := 51) (args := #[.string x]) ?_ ?_
            · generalize a'.eval = ρ at *
              simp [execOp, go_sem, e58, ef]
            · refine (stringsClone_any x w' hx8).mono ?_
              rintro e w'' ⟨rfl, hb1⟩
              exact ⟨_, rfl, _, rfl, updR_at _ _ _, hB.trans (hb1.mono hB.size)⟩
          | 28, ho =>
            simp at ho; subst ho
            have e38 : a'.eval (.tmp 38) = .int .i64 sq := hvals 6 _ _ (by kernel_rfl) rfl rfl
            have e43 : a'.eval (.tmp 43) = .int .i64 T := hvals 11 _ _ (by kernel_rfl) rfl rfl
            have e45 : a'.eval (.tmp 45) = .bool false := hvals 13 _ _ (by kernel_rfl) rfl rfl
            have e51 : a'.eval (.tmp 51) = .bool en := hvals 19 _ _ (by kernel_rfl) rfl rfl
            have e57 : a'.eval (.tmp 57) = .bool false := hvals 25 _ _ (by kernel_rfl) rfl rfl
            have e59 : a'.eval (.tmp 59) = r 0 := hvals 27 _ _ (by kernel_rfl) rfl rfl
            show s = 1 → _ ∧ Oper.wp _ _ _ _ _ _
            intro hs
            subst hs
            refine ⟨rfl, ?_⟩
            obtain ⟨hr0, hB⟩ := hI
            rw [hr0] at e59
            refine oper_wp_ok (v := Pk.val ⟨sq, T, false, en, false, x⟩) (w' := w') ?_ ⟨_, rfl, updR_at _ _ _, hB⟩
            generalize a'.eval = ρ at *
            simp [execOp, go_sem, e38, e43, e45, e51, e57, e59, Pk.val]
          | 29, ho =>
            simp at ho; subst ho
            have e60 : a'.eval (.tmp 60) = r 1 := hvals 28 _ _ (by kernel_rfl) rfl rfl
            show s = 2 → _ ∧ Oper.wp _ _ _ _ _ _
            intro hs
            subst hs
            refine ⟨rfl, ?_⟩
            obtain ⟨hr1, hB⟩ := hI
            rw [hr1] at e60
            refine oper_wp_ok (v := .slice (some ⟨w'.heap.size, 0, none⟩) 1 1) (w' := w'.alloc (.cells (Pk.cells ⟨sq, T, false, en, false, x⟩) 38)) ?_ ⟨_, rfl, w', hB, rfl, updR_at _ _ _⟩
            generalize a'.eval = ρ at *
            simp [execOp, go_sem, e60, Pk.val, Pk.cells]
          | 30, ho =>
            simp at ho; subst ho
            have e32 : a'.eval (.tmp 32) = u5 := hvals 0 _ _ (by kernel_rfl) rfl rfl
            have e61 : a'.eval (.tmp 61) = r 2 := hvals 29 _ _ (by kernel_rfl) rfl rfl
            show s = 3 → _ ∧ Oper.wp _ _ _ _ _ _
            intro hs
            subst hs
            refine ⟨rfl, ?_⟩
            obtain ⟨V, hB, hw, hr2⟩ := hI
            rw [hr2] at e61
            subst hw
            obtain ⟨v', w2, hrun, g2, g3⟩ := pk_snoc ⟨sq, T, false, en, false, x⟩ (owns_below HOW.out hB (Nat.le_refl _)) (by omega) (by have := hB.size; omega)
            refine oper_wp_ok (v := v') (w' := w2) ?_ ⟨_, rfl, V, hB, ?_, g3⟩
            · generalize a'.eval = ρ at *
              simp [execOp, resolve, invoke, builtin, e32, e61, hrun, Result.andThen]
            · rw [updR_at]; exact g2
          | 31, ho =>
            simp at ho; subst ho
            have e62 : a'.eval (.tmp 62) = r 3 := hvals 30 _ _ (by kernel_rfl) rfl rfl
            show s = 4 → _ ∧ Oper.wp _ _ _ _ _ _
            intro hs
            subst hs
            refine ⟨rfl, ?_⟩
            obtain ⟨V, hB, g2, g3⟩ := hI
            refine oper_wp_ok (v := r 3) (w' := w') ?_ ⟨_, rfl, V, hB, ?_, g3⟩
            · generalize a'.eval = ρ at *
              simp [execOp, go_sem, e62]
            · rw [updR_at]; exact g2
        case fin =>
          rintro r w7 ⟨V, hB, g2, g3⟩
          simp only [putC, Ck.out, Act.put, List.setIfInBounds_toArray, List.set_cons_succ, List.set_cons_zero]
          have hVs := hB.size
          have hM7 : Blk w7 M #[.int .i64 lk, .int .i64 T, .int .i64 s0] 65 := (g3.block M (by simp; omega) hMu).trans (((KMR.out.below hB KMR.out.lt)).alloc _)
          have h1 : Kept [M] W0 (V.alloc (.cells (Pk.cells ⟨sq, T, false, en, false, x⟩) 38)) := (HKR.out.below hB).alloc _
          have hK7 : Kept [M] W0 w7 := ⟨g3.os.trans h1.os, g3.tape.trans h1.tape, g3.output.trans h1.output, Nat.le_trans h1.size g3.size, fun j hj hn => (g3.block j (Nat.lt_of_lt_of_le hj h1.size) (fun e => by have := (HOW.out.lt j e.symm).1; have := HZ0.out.1; omega)).trans (h1.block j hj hn)⟩
          clear h1
          have HO7 : Hid (w7.ownsRow base 38 6 (r 4) (k + 1) (pkCells (pksK l T fk ps (k + 1)))) := by rw [HPK.out]; exact g2
          have HM7 : Hid (Blk w7 M #[.int .i64 lk, .int .i64 T, .int .i64 s0] 65) := hM7
          have HK7 : Hid (Kept [M] W0 w7) := hK7
          clear hM7 hK7 g2 g3 hB
          go_wp2_with fail
          go_roundw
          case rel => exact ⟨k + 1, by omega, by go_num, by rw [HLK.out] at HM7; exact HM7.out, HO7.out, HK7.out⟩
          case measure => simp [intOf]; omega
      case true =>
        refine region_chainG (by kernel_rfl) (by kernel_rfl) [.quiet (u5) 5, .quiet (.pointer (some ⟨M, 0, none⟩)) 5, .quiet (.pointer (some ⟨M, 0, none⟩)) 5, .quiet (.pointer (some ⟨M, 0, none⟩)) 5, .quiet (.pointer (some ⟨M, 0, none⟩)) 5, .quiet (.int .i64 lk) 5, .quiet (.int .i64 sq) 5, .quiet (.pointer (some ⟨M, 0, none⟩)) 5, .quiet (.pointer (some ⟨M, 0, none⟩)) 5, .quiet (.pointer (some ⟨M, 0, none⟩)) 5, .quiet (.pointer (some ⟨M, 1, none⟩)) 5, .quiet (.int .i64 T) 5, .quiet (.int .i64 k) 5, .quiet (.bool true) 5, .quiet (.int .i64 k) 5, .quiet (.pointer (some ⟨w.heap.size, 2, none⟩)) 5, .quiet (.slice (some ⟨b, off, none⟩) n pc) 5, .quiet (.int .i64 n) 5, .quiet (.int .i64 (n - 1)) 5, .quiet (.bool en) 5, .quiet (.int .i64 k) 5, .quiet (.bool true) 5, .quiet (.bool true) 5, .quiet (.pointer (some ⟨w.heap.size, 1, none⟩)) 5, .quiet (.bool fk) 5, .quiet (.bool fk) 5, .quiet (.string x) 5, .step 0, .step 1, .step 2, .step 3, .step 4] [27, 28, 29, 30, 31] (by kernel_rfl)
          (fun s r w' => match s with
            | 0 => Below WR.heap.size WR w'
            | 1 => r 0 = .string x ∧ Below WR.heap.size WR w'
            | 2 => r 1 = (Pk.val ⟨sq, T, true, en, fk, x⟩) ∧ Below WR.heap.size WR w'
            | 3 => ∃ V, Below WR.heap.size WR V ∧ w' = V.alloc (.cells (Pk.cells ⟨sq, T, true, en, fk, x⟩) 38) ∧ r 2 = .slice (some ⟨V.heap.size, 0, none⟩) 1 1
            | 4 => ∃ V, Below WR.heap.size WR V ∧ w'.ownsRow base 38 6 (r 3) (k + 1) (pkCells (PL ++ [⟨sq, T, true, en, fk, x⟩])) ∧ (V.alloc (.cells (Pk.cells ⟨sq, T, true, en, fk, x⟩) 38)).grownBy w' u5.ownBlock
            | _ => ∃ V, Below WR.heap.size WR V ∧ w'.ownsRow base 38 6 (r 4) (k + 1) (pkCells (PL ++ [⟨sq, T, true, en, fk, x⟩])) ∧ (V.alloc (.cells (Pk.cells ⟨sq, T, true, en, fk, x⟩) 38)).grownBy w' u5.ownBlock
            ) ((Below.refl _ WR).drew) ?step ?fin
        case step =>
          intro i o ho a' w' s r hI hfree hvals
          have hcell : ∀ a : Addr, a.block < WR.heap.size → some a.block ≠ u5.ownBlock → w'.cell? a = WR.cell? a := fun a ha hne => by
            match s, hI with
            | 0, hI => exact Below.cell hI ha
            | 1, ⟨_, hI⟩ => exact Below.cell hI ha
            | 2, ⟨_, hI⟩ => exact Below.cell hI ha
            | 3, ⟨V, hI, hw, _⟩ => rw [hw]; exact Below.cell (hI.alloc hI.size _) ha
            | 4, ⟨V, hI, _, hg⟩ => exact (grown_cell hg (by simp; have := hI.size; omega) hne).trans (Below.cell (hI.alloc hI.size _) ha)
            | n + 5, ⟨V, hI, _, hg⟩ => exact (grown_cell hg (by simp; have := hI.size; omega) hne).trans (Below.cell (hI.alloc hI.size _) ha)
          have y0 := (hcell ⟨M, 0, none⟩ hMl hMu).trans q0
          have y1 := (hcell ⟨M, 1, none⟩ hMl hMu).trans q1
          have z1 := (hcell ⟨w.heap.size, 1, none⟩ hFl hFu).trans p1
          have z2 := (hcell ⟨w.heap.size, 2, none⟩ hFl hFu).trans p2
          clear hcell
          match i, ho with
          | 0, ho =>
            simp at ho; subst ho
            have e5 : a'.eval (.tmp 5) = u5 := (hfree 5 (by kernel_rfl)).trans rfl
            show s ≤ 5 → _
            intro hs
            refine .inl ⟨rfl, ?_⟩
            generalize a'.eval = ρ at *
            simp [execOp, go_sem, e5]
          | 1, ho =>
            simp at ho; subst ho
            have e0 : a'.eval (.tmp 0) = .pointer (some ⟨M, 0, none⟩) := (hfree 0 (by kernel_rfl)).trans rfl
            show s ≤ 5 → _
            intro hs
            refine .inl ⟨rfl, ?_⟩
            generalize a'.eval = ρ at *
            simp [execOp, go_sem, e0]
          | 2, ho =>
            simp at ho; subst ho
            have e33 : a'.eval (.tmp 33) = .pointer (some ⟨M, 0, none⟩) := hvals 1 _ _ (by kernel_rfl) rfl rfl
            show s ≤ 5 → _
            intro hs
            refine .inl ⟨rfl, ?_⟩
            generalize a'.eval = ρ at *
            simp [execOp, go_sem, e33]
          | 3, ho =>
            simp at ho; subst ho
            have e34 : a'.eval (.tmp 34) = .pointer (some ⟨M, 0, none⟩) := hvals 2 _ _ (by kernel_rfl) rfl rfl
            show s ≤ 5 → _
            intro hs
            refine .inl ⟨rfl, ?_⟩
            generalize a'.eval = ρ at *
            simp [execOp, go_sem, e34]
          | 4, ho =>
            simp at ho; subst ho
            have e35 : a'.eval (.tmp 35) = .pointer (some ⟨M, 0, none⟩) := hvals 3 _ _ (by kernel_rfl) rfl rfl
            show s ≤ 5 → _
            intro hs
            refine .inl ⟨rfl, ?_⟩
            generalize a'.eval = ρ at *
            simp [execOp, go_sem, e35]
          | 5, ho =>
            simp at ho; subst ho
            have e36 : a'.eval (.tmp 36) = .pointer (some ⟨M, 0, none⟩) := hvals 4 _ _ (by kernel_rfl) rfl rfl
            show s ≤ 5 → _
            intro hs
            refine .inl ⟨rfl, ?_⟩
            generalize a'.eval = ρ at *
            simp [execOp, go_sem, e36, y0]
          | 6, ho =>
            simp at ho; subst ho
            have e37 : a'.eval (.tmp 37) = .int .i64 lk := hvals 5 _ _ (by kernel_rfl) rfl rfl
            have ec0 : a'.eval (.const (.int .i64 65536)) = .int .i64 65536 := rfl
            show s ≤ 5 → _
            intro hs
            refine .inl ⟨rfl, ?_⟩
            generalize a'.eval = ρ at *
            simp [execOp, go_sem, e37, ec0, hrem]
          | 7, ho =>
            simp at ho; subst ho
            have e0 : a'.eval (.tmp 0) = .pointer (some ⟨M, 0, none⟩) := (hfree 0 (by kernel_rfl)).trans rfl
            show s ≤ 5 → _
            intro hs
            refine .inl ⟨rfl, ?_⟩
            generalize a'.eval = ρ at *
            simp [execOp, go_sem, e0]
          | 8, ho =>
            simp at ho; subst ho
            have e39 : a'.eval (.tmp 39) = .pointer (some ⟨M, 0, none⟩) := hvals 7 _ _ (by kernel_rfl) rfl rfl
            show s ≤ 5 → _
            intro hs
            refine .inl ⟨rfl, ?_⟩
            generalize a'.eval = ρ at *
            simp [execOp, go_sem, e39]
          | 9, ho =>
            simp at ho; subst ho
            have e40 : a'.eval (.tmp 40) = .pointer (some ⟨M, 0, none⟩) := hvals 8 _ _ (by kernel_rfl) rfl rfl
            show s ≤ 5 → _
            intro hs
            refine .inl ⟨rfl, ?_⟩
            generalize a'.eval = ρ at *
            simp [execOp, go_sem, e40]
          | 10, ho =>
            simp at ho; subst ho
            have e41 : a'.eval (.tmp 41) = .pointer (some ⟨M, 0, none⟩) := hvals 9 _ _ (by kernel_rfl) rfl rfl
            show s ≤ 5 → _
            intro hs
            refine .inl ⟨rfl, ?_⟩
            generalize a'.eval = ρ at *
            simp [execOp, go_sem, e41]
          | 11, ho =>
            simp at ho; subst ho
            have e42 : a'.eval (.tmp 42) = .pointer (some ⟨M, 1, none⟩) := hvals 10 _ _ (by kernel_rfl) rfl rfl
            show s ≤ 5 → _
            intro hs
            refine .inl ⟨rfl, ?_⟩
            generalize a'.eval = ρ at *
            simp [execOp, go_sem, e42, y1]
          | 12, ho =>
            simp at ho; subst ho
            have e6 : a'.eval (.tmp 6) = .int .i64 k := (hfree 6 (by kernel_rfl)).trans rfl
            show s ≤ 5 → _
            intro hs
            refine .inl ⟨rfl, ?_⟩
            generalize a'.eval = ρ at *
            simp [execOp, go_sem, e6]
          | 13, ho =>
            simp at ho; subst ho
            have e44 : a'.eval (.tmp 44) = .int .i64 k := hvals 12 _ _ (by kernel_rfl) rfl rfl
            have ec0 : a'.eval (.const (.int .i64 0)) = .int .i64 0 := rfl
            show s ≤ 5 → _
            intro hs
            refine .inl ⟨rfl, ?_⟩
            generalize a'.eval = ρ at *
            simp [execOp, go_sem, e44, ec0, hz]
          | 14, ho =>
            simp at ho; subst ho
            have e6 : a'.eval (.tmp 6) = .int .i64 k := (hfree 6 (by kernel_rfl)).trans rfl
            show s ≤ 5 → _
            intro hs
            refine .inl ⟨rfl, ?_⟩
            generalize a'.eval = ρ at *
            simp [execOp, go_sem, e6]
          | 15, ho =>
            simp at ho; subst ho
            have e3 : a'.eval (.tmp 3) = .pointer (some ⟨w.heap.size, 0, none⟩) := (hfree 3 (by kernel_rfl)).trans rfl
            show s ≤ 5 → _
            intro hs
            refine .inl ⟨rfl, ?_⟩
            generalize a'.eval = ρ at *
            simp [execOp, go_sem, e3]
          | 16, ho =>
            simp at ho; subst ho
            have e47 : a'.eval (.tmp 47) = .pointer (some ⟨w.heap.size, 2, none⟩) := hvals 15 _ _ (by kernel_rfl) rfl rfl
            show s ≤ 5 → _
            intro hs
            refine .inl ⟨rfl, ?_⟩
            generalize a'.eval = ρ at *
            simp [execOp, go_sem, e47, z2]
          | 17, ho =>
            simp at ho; subst ho
            have e48 : a'.eval (.tmp 48) = .slice (some ⟨b, off, none⟩) n pc := hvals 16 _ _ (by kernel_rfl) rfl rfl
            show s ≤ 5 → _
            intro hs
            refine .inl ⟨rfl, ?_⟩
            generalize a'.eval = ρ at *
            simp [go_sem, e48]
          | 18, ho =>
            simp at ho; subst ho
            have e49 : a'.eval (.tmp 49) = .int .i64 n := hvals 17 _ _ (by kernel_rfl) rfl rfl
            have ec0 : a'.eval (.const (.int .i64 1)) = .int .i64 1 := rfl
            show s ≤ 5 → _
            intro hs
            refine .inl ⟨rfl, ?_⟩
            generalize a'.eval = ρ at *
            simp [execOp, go_sem, e49, ec0, hsub]
          | 19, ho =>
            simp at ho; subst ho
            have e46 : a'.eval (.tmp 46) = .int .i64 k := hvals 14 _ _ (by kernel_rfl) rfl rfl
            have e50 : a'.eval (.tmp 50) = .int .i64 (n - 1) := hvals 18 _ _ (by kernel_rfl) rfl rfl
            show s ≤ 5 → _
            intro hs
            refine .inl ⟨rfl, ?_⟩
            generalize a'.eval = ρ at *
            simp [execOp, go_sem, e46, e50, hen]
          | 20, ho =>
            simp at ho; subst ho
            have e6 : a'.eval (.tmp 6) = .int .i64 k := (hfree 6 (by kernel_rfl)).trans rfl
            show s ≤ 5 → _
            intro hs
            refine .inl ⟨rfl, ?_⟩
            generalize a'.eval = ρ at *
            simp [execOp, go_sem, e6]
          | 21, ho =>
            simp at ho; subst ho
            have e52 : a'.eval (.tmp 52) = .int .i64 k := hvals 20 _ _ (by kernel_rfl) rfl rfl
            have ec0 : a'.eval (.const (.int .i64 0)) = .int .i64 0 := rfl
            show s ≤ 5 → _
            intro hs
            refine .inl ⟨rfl, ?_⟩
            generalize a'.eval = ρ at *
            simp [execOp, go_sem, e52, ec0, hz]
          | 22, ho =>
            simp at ho; subst ho
            have e53 : a'.eval (.tmp 53) = .bool true := hvals 21 _ _ (by kernel_rfl) rfl rfl
            show s ≤ 5 → _
            intro hs
            refine .inl ⟨rfl, ?_⟩
            generalize a'.eval = ρ at *
            simp [execOp, go_sem, e53]
          | 23, ho =>
            simp at ho; subst ho
            have e3 : a'.eval (.tmp 3) = .pointer (some ⟨w.heap.size, 0, none⟩) := (hfree 3 (by kernel_rfl)).trans rfl
            show s ≤ 5 → _
            intro hs
            have hg : a'.eval (.tmp 54) = .bool true := hvals 22 _ _ (by kernel_rfl) rfl rfl
            have hy := tmps_of hg
            refine .inl ⟨by simp [Region.wanted, yielded, hy], ?_⟩
            generalize a'.eval = ρ at *
            simp [execOp, go_sem, e3]
          | 24, ho =>
            simp at ho; subst ho
            have e55 : a'.eval (.tmp 55) = .pointer (some ⟨w.heap.size, 1, none⟩) := hvals 23 _ _ (by kernel_rfl) rfl rfl
            show s ≤ 5 → _
            intro hs
            have hg : a'.eval (.tmp 54) = .bool true := hvals 22 _ _ (by kernel_rfl) rfl rfl
            have hy := tmps_of hg
            refine .inl ⟨by simp [Region.wanted, yielded, hy], ?_⟩
            generalize a'.eval = ρ at *
            simp [execOp, go_sem, e55, z1]
          | 25, ho =>
            simp at ho; subst ho
            have e54 : a'.eval (.tmp 54) = .bool true := hvals 22 _ _ (by kernel_rfl) rfl rfl
            have e56 : a'.eval (.tmp 56) = .bool fk := hvals 24 _ _ (by kernel_rfl) rfl rfl
            have ec0 : a'.eval (.const (.bool false)) = .bool false := rfl
            show s ≤ 5 → _
            intro hs
            refine .inl ⟨rfl, ?_⟩
            generalize a'.eval = ρ at *
            simp [execOp, go_sem, e54, e56, ec0]
          | 26, ho =>
            simp at ho; subst ho
            have e7 : a'.eval (.tmp 7) = .string x := (hfree 7 (by kernel_rfl)).trans rfl
            show s ≤ 5 → _
            intro hs
            refine .inl ⟨rfl, ?_⟩
            generalize a'.eval = ρ at *
            simp [execOp, go_sem, e7]
          | 27, ho =>
            simp at ho; subst ho
            have e58 : a'.eval (.tmp 58) = .string x := hvals 26 _ _ (by kernel_rfl) rfl rfl
            show s = 0 → _ ∧ Oper.wp _ _ _ _ _ _
            intro hs
            subst hs
            refine ⟨rfl, ?_⟩
            have ef : a'.eval (.func 51) = .func (.func 51) #[] #[] := rfl
            have hB : Below WR.heap.size WR w' := hI
            refine oper_wp_call (f := 51) (args := #[.string x]) ?_ ?_
            · generalize a'.eval = ρ at *
              simp [execOp, go_sem, e58, ef]
            · refine (stringsClone_any x w' hx8).mono ?_
              rintro e w'' ⟨rfl, hb1⟩
              exact ⟨_, rfl, _, rfl, updR_at _ _ _, hB.trans (hb1.mono hB.size)⟩
          | 28, ho =>
            simp at ho; subst ho
            have e38 : a'.eval (.tmp 38) = .int .i64 sq := hvals 6 _ _ (by kernel_rfl) rfl rfl
            have e43 : a'.eval (.tmp 43) = .int .i64 T := hvals 11 _ _ (by kernel_rfl) rfl rfl
            have e45 : a'.eval (.tmp 45) = .bool true := hvals 13 _ _ (by kernel_rfl) rfl rfl
            have e51 : a'.eval (.tmp 51) = .bool en := hvals 19 _ _ (by kernel_rfl) rfl rfl
            have e57 : a'.eval (.tmp 57) = .bool fk := hvals 25 _ _ (by kernel_rfl) rfl rfl
            have e59 : a'.eval (.tmp 59) = r 0 := hvals 27 _ _ (by kernel_rfl) rfl rfl
            show s = 1 → _ ∧ Oper.wp _ _ _ _ _ _
            intro hs
            subst hs
            refine ⟨rfl, ?_⟩
            obtain ⟨hr0, hB⟩ := hI
            rw [hr0] at e59
            refine oper_wp_ok (v := Pk.val ⟨sq, T, true, en, fk, x⟩) (w' := w') ?_ ⟨_, rfl, updR_at _ _ _, hB⟩
            generalize a'.eval = ρ at *
            simp [execOp, go_sem, e38, e43, e45, e51, e57, e59, Pk.val]
          | 29, ho =>
            simp at ho; subst ho
            have e60 : a'.eval (.tmp 60) = r 1 := hvals 28 _ _ (by kernel_rfl) rfl rfl
            show s = 2 → _ ∧ Oper.wp _ _ _ _ _ _
            intro hs
            subst hs
            refine ⟨rfl, ?_⟩
            obtain ⟨hr1, hB⟩ := hI
            rw [hr1] at e60
            refine oper_wp_ok (v := .slice (some ⟨w'.heap.size, 0, none⟩) 1 1) (w' := w'.alloc (.cells (Pk.cells ⟨sq, T, true, en, fk, x⟩) 38)) ?_ ⟨_, rfl, w', hB, rfl, updR_at _ _ _⟩
            generalize a'.eval = ρ at *
            simp [execOp, go_sem, e60, Pk.val, Pk.cells]
          | 30, ho =>
            simp at ho; subst ho
            have e32 : a'.eval (.tmp 32) = u5 := hvals 0 _ _ (by kernel_rfl) rfl rfl
            have e61 : a'.eval (.tmp 61) = r 2 := hvals 29 _ _ (by kernel_rfl) rfl rfl
            show s = 3 → _ ∧ Oper.wp _ _ _ _ _ _
            intro hs
            subst hs
            refine ⟨rfl, ?_⟩
            obtain ⟨V, hB, hw, hr2⟩ := hI
            rw [hr2] at e61
            subst hw
            obtain ⟨v', w2, hrun, g2, g3⟩ := pk_snoc ⟨sq, T, true, en, fk, x⟩ (owns_below HOW.out hB (Nat.le_refl _)) (by omega) (by have := hB.size; omega)
            refine oper_wp_ok (v := v') (w' := w2) ?_ ⟨_, rfl, V, hB, ?_, g3⟩
            · generalize a'.eval = ρ at *
              simp [execOp, resolve, invoke, builtin, e32, e61, hrun, Result.andThen]
            · rw [updR_at]; exact g2
          | 31, ho =>
            simp at ho; subst ho
            have e62 : a'.eval (.tmp 62) = r 3 := hvals 30 _ _ (by kernel_rfl) rfl rfl
            show s = 4 → _ ∧ Oper.wp _ _ _ _ _ _
            intro hs
            subst hs
            refine ⟨rfl, ?_⟩
            obtain ⟨V, hB, g2, g3⟩ := hI
            refine oper_wp_ok (v := r 3) (w' := w') ?_ ⟨_, rfl, V, hB, ?_, g3⟩
            · generalize a'.eval = ρ at *
              simp [execOp, go_sem, e62]
            · rw [updR_at]; exact g2
        case fin =>
          rintro r w7 ⟨V, hB, g2, g3⟩
          simp only [putC, Ck.out, Act.put, List.setIfInBounds_toArray, List.set_cons_succ, List.set_cons_zero]
          have hVs := hB.size
          have hM7 : Blk w7 M #[.int .i64 lk, .int .i64 T, .int .i64 s0] 65 := (g3.block M (by simp; omega) hMu).trans (((KMR.out.below hB KMR.out.lt)).alloc _)
          have h1 : Kept [M] W0 (V.alloc (.cells (Pk.cells ⟨sq, T, true, en, fk, x⟩) 38)) := (HKR.out.below hB).alloc _
          have hK7 : Kept [M] W0 w7 := ⟨g3.os.trans h1.os, g3.tape.trans h1.tape, g3.output.trans h1.output, Nat.le_trans h1.size g3.size, fun j hj hn => (g3.block j (Nat.lt_of_lt_of_le hj h1.size) (fun e => by have := (HOW.out.lt j e.symm).1; have := HZ0.out.1; omega)).trans (h1.block j hj hn)⟩
          clear h1
          have HO7 : Hid (w7.ownsRow base 38 6 (r 4) (k + 1) (pkCells (pksK l T fk ps (k + 1)))) := by rw [HPK.out]; exact g2
          have HM7 : Hid (Blk w7 M #[.int .i64 lk, .int .i64 T, .int .i64 s0] 65) := hM7
          have HK7 : Hid (Kept [M] W0 w7) := hK7
          clear hM7 hK7 g2 g3 hB
          go_wp2_with fail
          go_roundw
          case rel => exact ⟨k + 1, by omega, by go_num, by rw [HLK.out] at HM7; exact HM7.out, HO7.out, HK7.out⟩
          case measure => simp [intOf]; omega
    · have hkn : k = n := by omega
      subst hkn
      clear HSr
      go_wp2
      go_ret
      exact ⟨_, rfl, by rw [pksOf, ← HN.out]; exact HO.out, HM.out, ⟨by rw [HK.out.os, HZ0.out.2.os], by rw [HK.out.tape, HZ0.out.2.tape], by rw [HK.out.output, HZ0.out.2.output], Nat.le_trans HZ0.out.2.size HK.out.size, fun j hj hn => (HK.out.block j (Nat.lt_of_lt_of_le hj HZ0.out.2.size) hn).trans (HZ0.out.2.block j hj)⟩⟩

end Go.Proofs.Ytnpaejknoipicaf
