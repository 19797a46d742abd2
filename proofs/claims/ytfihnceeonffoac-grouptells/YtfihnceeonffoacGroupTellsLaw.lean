/-
  The walk of switchbacklaw.GroupTells.
-/
import Derived.Test.YtfihnceeonffoacRefGroups
import Derived.Test.YtfihnceeonffoacGroupBegun
import Derived.Deep.DeepCutAuto
namespace Go.Proofs.Ytfihnceeonffoac
open Go.RowKit

set_option maxHeartbeats 4000000 in
set_option maxRecDepth 100000 in
theorem groupTells_any (gv u : Value) (g l : List Fr) (w : World) (hg : FrsIn (fun _ => True) w gv g) (hu : FrsIn (fun _ => True) w u l) :
    Calls Try.prog 4 #[.agg #[gv], u] w fun e w' => e = .returned (.bool true) ∧ Below w.heap.size w w' := by
  obtain ⟨ga, gc, eg, _, _⟩ := hg.len
  obtain ⟨ua, uc, eu, _, _⟩ := hu.len
  obtain ⟨ng, hng⟩ : ∃ n, n = g.length := ⟨_, rfl⟩
  obtain ⟨nl, hnl⟩ : ∃ n, n = l.length := ⟨_, rfl⟩
  rw [← hng] at eg
  rw [← hnl] at eu
  obtain ⟨E, hE⟩ : ∃ E, E = groupsE l := ⟨_, rfl⟩
  obtain ⟨RA, RO, hR⟩ : ∃ RA RO, (RA, RO) = groupsR l := ⟨_, _, rfl⟩
  obtain ⟨nA, hnA⟩ : ∃ n, n = RA.length := ⟨_, rfl⟩
  obtain ⟨nO, hnO⟩ : ∃ n, n = RO.length := ⟨_, rfl⟩
  obtain ⟨K, hK⟩ : ∃ K, K = gchk g := ⟨_, rfl⟩
  obtain ⟨Z, hZ⟩ : ∃ Z : Nat, Z = gsize g := ⟨_, rfl⟩
  have HZ0 : Hid (¬ K = 0 → Z = 0) := fun h => by rw [hZ]; unfold gsize; rw [if_neg (by rw [← hK]; exact h)]
  have HA : Hid (∀ w' : World, FrsIn (fun _ => True) w' u l → Calls Try.prog 13 #[u] w' fun e w'' => ∃ ca cc fa fc, e = .returned (.tuple #[.slice ca nA cc, .agg #[.slice fa nO fc], .int .i64 E]) ∧ Hid (GrsIn (fun _ => True) w'' (.slice ca nA cc) RA) ∧ Hid (FrsIn (fun _ => True) w'' (.slice fa nO fc) RO) ∧ Below w'.heap.size w' w'') := fun w' hs => by
    refine (groupAll_any u l w' _ hs).mono ?_
    rw [← hE, ← hR]
    simp only [← hnA, ← hnO]
    rintro e w'' ⟨ca, cc, fa, fc, rfl, h1, h2, hb⟩
    exact ⟨ca, cc, fa, fc, rfl, h1.mono (fun _ _ _ => trivial), h2.mono (fun _ _ _ => trivial), hb⟩
  have HD : Hid (∀ w' : World, FrsIn (fun _ => True) w' u l → Calls Try.prog 16 #[u] w' fun e w'' => ∃ ca cc fa fc, e = .returned (.tuple #[.slice ca nA cc, .agg #[.slice fa nO fc], .int .i64 E]) ∧ Hid (GrsIn (fun _ => True) w'' (.slice ca nA cc) RA) ∧ Hid (FrsIn (fun _ => True) w'' (.slice fa nO fc) RO) ∧ Below w'.heap.size w' w'') := fun w' hs => by
    refine (groupsOf_any u l w' hs).mono ?_
    rw [← hE, ← hR]
    simp only [← hnA, ← hnO]
    rintro e w'' ⟨ca, cc, fa, fc, rfl, h1, h2, hb⟩
    exact ⟨ca, cc, fa, fc, rfl, h1, h2, hb⟩
  have HS : Hid (∀ w' : World, FrsIn (fun _ => True) w' gv g → Calls Try.prog 12 #[.agg #[gv]] w' fun e w'' => e = .returned (.tuple #[.int .i64 Z, .int .i64 K]) ∧ Below w'.heap.size w' w'') := fun w' hs => by
    rw [hZ, hK]; exact groupSize_any _ gv g w' hs
  have HC : Hid (∀ w' : World, FrsIn (fun _ => True) w' gv g → Calls Try.prog 18 #[.agg #[gv]] w' fun e w'' => e = .returned (.int .i64 K) ∧ Below w'.heap.size w' w'') := fun w' hs => by
    rw [hK]; exact groupCheck_any _ gv g w' hs
  have HCR : Hid (∀ w' : World, FrsIn (fun _ => True) w' gv g → Calls Try.prog 14 #[.agg #[gv]] w' fun e w'' => e = .returned (.int .i64 K) ∧ Below w'.heap.size w' w'') := fun w' hs => by
    rw [hK]; exact refCheckGroup_any _ gv g w' hs
  have HSR : Hid (K = 0 → ∀ w' : World, FrsIn (fun _ => True) w' gv g → Calls Try.prog 15 #[.agg #[gv]] w' fun e w'' => e = .returned (.int .i64 Z) ∧ Below w'.heap.size w' w'') := fun h w' hs => by
    have hz : gchk g = 0 := by rw [← hK]; exact h
    rw [hZ]; unfold gsize; rw [if_pos hz]
    exact sizeOf_any _ gv g w' hs hz
  have HL : Hid (nO ≤ 9223372036854775807) := by
    show _ ≤ _
    rw [hnO]
    by_cases h : groupsE l = 0
    · have h2 := (upG_len l l.length (Nat.le_refl _)).1
      have r1 : groupsR l = upG l l.length := by unfold groupsR; rw [if_pos h]
      rw [← r1, ← hR] at h2
      simp only at h2
      omega
    · have r1 : groupsR l = ([], []) := by unfold groupsR; rw [if_neg h]
      rw [← hR] at r1
      injection r1 with _ r2
      rw [r2]; simp
  have HU : Hid (FrsIn (fun _ => True) w u l) := hu
  have HG : Hid (FrsIn (fun _ => True) w gv g) := hg
  have HNO : Hid (nO = RO.length) := hnO
  clear hu hg hE hR hnA hnO hK hZ hng hnl
  subst eu eg
  go_enter Try.func4, Try.ntmps4
  go_wp2_with fail
  have K0 : Hid (Blk (w.alloc (.cells #[.slice ga ng gc] 35)) w.heap.size #[.slice ga ng gc] 35) := Blk.new _ _ _
  have B0 : Hid (Below w.heap.size w (w.alloc (.cells #[.slice ga ng gc] 35))) := (Below.refl _ _).alloc (Nat.le_refl _) _
  refine (HS.out _ (HG.out.below B0.out)).mono ?_
  rintro e w1 ⟨rfl, hb⟩
  have K1 : Hid (Blk w1 w.heap.size #[.slice ga ng gc] 35) := K0.out.below hb K0.out.lt
  have B1 : Hid (Below w.heap.size w w1) := B0.out.trans (hb.mono B0.out.size)
  clear hb K0 B0
  go_wp2_with fail
  refine (HA.out _ (HU.out.below B1.out)).mono ?_
  rintro e w2 ⟨a1, c1, a2, c2, rfl, g2, f2, hb⟩
  have bb : Below w1.heap.size w1 (w2.alloc (.cells #[.slice a2 nO c2] 35)) := hb.alloc hb.size _
  have K2 : Hid (Blk (w2.alloc (.cells #[.slice a2 nO c2] 35)) w.heap.size #[.slice ga ng gc] 35) := K1.out.below bb K1.out.lt
  have J2 : Hid (Blk (w2.alloc (.cells #[.slice a2 nO c2] 35)) w2.heap.size #[.slice a2 nO c2] 35) := Blk.new _ _ _
  have G2 : Hid (GrsIn (fun _ => True) (w2.alloc (.cells #[.slice a2 nO c2] 35)) (.slice a1 nA c1) RA) := g2.out.alloc _
  have F2 : Hid (FrsIn (fun _ => True) (w2.alloc (.cells #[.slice a2 nO c2] 35)) (.slice a2 nO c2) RO) := f2.out.alloc _
  have B2 : Hid (Below w.heap.size w (w2.alloc (.cells #[.slice a2 nO c2] 35))) := B1.out.trans (bb.mono B1.out.size)
  clear hb bb g2 f2 K1 B1
  have k0 := K2.out.one
  go_wp2_with fail
  refine (HCR.out _ (HG.out.below B2.out)).mono ?_
  rintro e w3 ⟨rfl, hb⟩
  have K3 : Hid (Blk w3 w.heap.size #[.slice ga ng gc] 35) := K2.out.below hb K2.out.lt
  have J3 : Hid (Blk w3 w2.heap.size #[.slice a2 nO c2] 35) := J2.out.below hb J2.out.lt
  have G3 : Hid (GrsIn (fun _ => True) w3 (.slice a1 nA c1) RA) := G2.out.below hb
  have F3 : Hid (FrsIn (fun _ => True) w3 (.slice a2 nO c2) RO) := F2.out.below hb
  have B3 : Hid (Below w.heap.size w w3) := B2.out.trans (hb.mono B2.out.size)
  clear hb k0 K2 J2 G2 F2 B2
  go_upto_if 29 with fail
  go_cut [11] (fun s11 wc => s11 = .int .i64 Z ∧ Hid (Below w3.heap.size w3 wc))
  case first =>
    by_cases h0 : K = 0
    · have HSR2 : Hid (∀ w' : World, FrsIn (fun _ => True) w' (.slice ga ng gc) g → Calls Try.prog 15 #[.agg #[.slice ga ng gc]] w' fun e w'' => e = .returned (.int .i64 Z) ∧ Below w'.heap.size w' w'') := HSR.out h0
      have k0 := K3.out.one
      subst h0
      go_wp2_with fail
      refine (HSR2.out _ (HG.out.below B3.out)).mono ?_
      rintro e w4 ⟨rfl, hb⟩
      go_wp2_with fail
      go_meet
      case rel => exact ⟨rfl, hb⟩
    · have hz := HZ0.out h0
      subst hz
      go_wp2_with fail
      go_meet
      case rel => exact ⟨rfl, Below.refl _ _⟩
  case rest =>
    obtain ⟨rfl, HB⟩ := hcut
    have K4 : Hid (Blk wc w.heap.size #[.slice ga ng gc] 35) := K3.out.below HB.out K3.out.lt
    have J4 : Hid (Blk wc w2.heap.size #[.slice a2 nO c2] 35) := J3.out.below HB.out J3.out.lt
    have G4 : Hid (GrsIn (fun _ => True) wc (.slice a1 nA c1) RA) := G3.out.below HB.out
    have F4 : Hid (FrsIn (fun _ => True) wc (.slice a2 nO c2) RO) := F3.out.below HB.out
    have B4 : Hid (Below w.heap.size w wc) := B3.out.trans (HB.out.mono B3.out.size)
    clear HB K3 J3 G3 F3 B3 HS HA HCR HSR
    go_wp2_with fail
    refine (HD.out _ (HU.out.below B4.out)).mono ?_
    rintro e w5 ⟨a3, c3, a4, c4, rfl, g5, f5, hb⟩
    have bb : Below wc.heap.size wc (w5.alloc (.cells #[.slice a4 nO c4] 35)) := hb.alloc hb.size _
    have K5 : Hid (Blk (w5.alloc (.cells #[.slice a4 nO c4] 35)) w.heap.size #[.slice ga ng gc] 35) := K4.out.below bb K4.out.lt
    have J5 : Hid (Blk (w5.alloc (.cells #[.slice a4 nO c4] 35)) w2.heap.size #[.slice a2 nO c2] 35) := J4.out.below bb J4.out.lt
    have I5 : Hid (Blk (w5.alloc (.cells #[.slice a4 nO c4] 35)) w5.heap.size #[.slice a4 nO c4] 35) := Blk.new _ _ _
    have G5 : Hid (GrsIn (fun _ => True) (w5.alloc (.cells #[.slice a4 nO c4] 35)) (.slice a1 nA c1) RA) := G4.out.below bb
    have F5 : Hid (FrsIn (fun _ => True) (w5.alloc (.cells #[.slice a4 nO c4] 35)) (.slice a2 nO c2) RO) := F4.out.below bb
    have G6 : Hid (GrsIn (fun _ => True) (w5.alloc (.cells #[.slice a4 nO c4] 35)) (.slice a3 nA c3) RA) := g5.out.alloc _
    have F6 : Hid (FrsIn (fun _ => True) (w5.alloc (.cells #[.slice a4 nO c4] 35)) (.slice a4 nO c4) RO) := f5.out.alloc _
    have B5 : Hid (Below w.heap.size w (w5.alloc (.cells #[.slice a4 nO c4] 35))) := B4.out.trans (bb.mono B4.out.size)
    clear hb bb g5 f5 K4 J4 G4 F4 B4
    go_wp2_with fail
    refine (groupBegun_any _).mono ?_
    rintro e w6 ⟨rfl, hb⟩
    have K7 : Hid (Blk w6 w.heap.size #[.slice ga ng gc] 35) := K5.out.below hb K5.out.lt
    have J7 : Hid (Blk w6 w2.heap.size #[.slice a2 nO c2] 35) := J5.out.below hb J5.out.lt
    have I7 : Hid (Blk w6 w5.heap.size #[.slice a4 nO c4] 35) := I5.out.below hb I5.out.lt
    have G7 : Hid (GrsIn (fun _ => True) w6 (.slice a1 nA c1) RA) := G5.out.below hb
    have F7 : Hid (FrsIn (fun _ => True) w6 (.slice a2 nO c2) RO) := F5.out.below hb
    have G8 : Hid (GrsIn (fun _ => True) w6 (.slice a3 nA c3) RA) := G6.out.below hb
    have F8 : Hid (FrsIn (fun _ => True) w6 (.slice a4 nO c4) RO) := F6.out.below hb
    have B6 : Hid (Below w.heap.size w w6) := B5.out.trans (hb.mono B5.out.size)
    clear hb K5 J5 I5 G5 F5 G6 F6 B5
    have k0 := K7.out.one
    go_wp2_with fail
    refine (HC.out _ (HG.out.below B6.out)).mono ?_
    rintro e w7 ⟨rfl, hb⟩
    have J9 : Hid (Blk w7 w2.heap.size #[.slice a2 nO c2] 35) := J7.out.below hb J7.out.lt
    have I9 : Hid (Blk w7 w5.heap.size #[.slice a4 nO c4] 35) := I7.out.below hb I7.out.lt
    have F9 : Hid (FrsIn (fun _ => True) w7 (.slice a2 nO c2) RO) := F7.out.below hb
    have F10 : Hid (FrsIn (fun _ => True) w7 (.slice a4 nO c4) RO) := F8.out.below hb
    have G9 : Hid (GrsIn (fun _ => True) w7 (.slice a1 nA c1) RA) := G7.out.below hb
    have G10 : Hid (GrsIn (fun _ => True) w7 (.slice a3 nA c3) RA) := G8.out.below hb
    have B7 : Hid (Below w.heap.size w w7) := B6.out.trans (hb.mono B6.out.size)
    clear hb k0 K7 J7 I7 F7 F8 G7 G8 B6 HC HD
    go_wp2_with fail
    refine (sameGroups_any _ _ _ _ _ _ _ G9.out G10.out).mono ?_
    rw [show sameGs RA RA = true from decide_eq_true rfl]
    rintro e w8 ⟨rfl, hb⟩
    have j0 := (J9.out.below hb J9.out.lt).one
    have i0 := (I9.out.below hb I9.out.lt).one
    have F11 : Hid (FrsIn (fun _ => True) w8 (.slice a2 nO c2) RO) := F9.out.below hb
    have F12 : Hid (FrsIn (fun _ => True) w8 (.slice a4 nO c4) RO) := F10.out.below hb
    have B8 : Hid (Below w.heap.size w w8) := B7.out.trans (hb.mono B7.out.size)
    clear hb J9 I9 F9 F10 G9 G10 B7
    go_wp2_with fail
    refine (sameFrames_any _ _ _ _ _ F11.out.frs F12.out.frs (by rw [← HNO.out]; exact HL.out)).mono ?_
    rw [show sameFs RO RO = true from decide_eq_true rfl]
    rintro e w9 ⟨rfl, hb⟩
    have B9 : Hid (Below w.heap.size w w9) := B8.out.trans (hb.mono B8.out.size)
    clear hb j0 i0
    go_wp2
    go_ret
    exact ⟨rfl, B9.out⟩

end Go.Proofs.Ytfihnceeonffoac
