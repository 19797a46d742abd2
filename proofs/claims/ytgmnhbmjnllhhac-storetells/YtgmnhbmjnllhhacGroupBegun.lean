/-
  Contracts: switchbacklaw.pic, switchbacklaw.groupBegun.
-/
import Derived.Test.YtgmnhbmjnllhhacGroupAll
namespace Go.Proofs.Ytgmnhbmjnllhhac
open Go.RowKit

/-- the law's own frame -/
def pf (t : Int) (k : Bool) : Fr := ⟨t, k, [⟨#[97, 98, 99]⟩]⟩

set_option maxHeartbeats 400000 in
theorem pic_any (t : Int) (k : Bool) (w : World) :
    Calls Try.prog 41 #[.int .i64 t, .bool k] w fun e w' => e = .returned (.agg #[.int .i64 t, .bool k, .slice (some ⟨w.heap.size + 1, 0, none⟩) 1 1]) ∧ StrsIn (fun g => w.heap.size ≤ g) w' (.slice (some ⟨w.heap.size + 1, 0, none⟩) 1 1) [⟨#[97, 98, 99]⟩] ∧ Below w.heap.size w w' := by
  go_enter Try.func41, Try.ntmps41
  go_wp2
  refine bodyPost_ret (v := .agg #[.int .i64 t, .bool k, .slice (some ⟨w.heap.size + 1, 0, none⟩) 1 1]) (by simp [results, Try.results41, go_sem]) rfl ⟨rfl, ?_, ?_⟩
  · have hk := Blk.new (w.alloc (.cells #[.int .i64 t, .bool k, .slice (some ⟨w.heap.size + 1, 0, none⟩) 1 1] 48)) #[.string ⟨#[97, 98, 99]⟩] 9
    simp only [World.size_alloc] at hk
    refine ⟨⟨rfl, .inr ⟨w.heap.size + 1, 0, 1, rfl, hk.lt, fun j u hj => ?_⟩⟩, by simp, fun g hg _ => ?_⟩
    · rw [Nat.zero_add]
      exact hk.cell (by simpa using hj)
    · simp [Value.ownBlock] at hg
      subst hg
      exact ⟨by omega, hk.lt⟩
  · exact ((Below.refl _ w).alloc (Nat.le_refl _) _).alloc (by simp) _

theorem gb_all : groupsE [pf 1 false, pf 2 true, pf 3 false, pf 4 true] = 0 ∧ groupsR [pf 1 false, pf 2 true, pf 3 false, pf 4 true] = ([[pf 2 true, pf 3 false]], [pf 4 true]) := ⟨by decide, by decide⟩
theorem gb_chk : gchk [pf 4 true] = 0 ∧ gsize [pf 4 true] = 3 := ⟨by decide, by decide⟩

set_option maxHeartbeats 4000000 in
set_option maxRecDepth 100000 in
theorem groupBegun_any (w : World) :
    Calls Try.prog 17 #[] w fun e w' => e = .returned (.bool true) ∧ Below w.heap.size w w' := by
  have hp : Hid (∀ (t : Int) (k : Bool) (w : World), Calls Try.prog 41 #[.int .i64 t, .bool k] w fun e w' => ∃ a c, e = .returned (.agg #[.int .i64 t, .bool k, .slice a 1 c]) ∧ Hid (StrsIn (fun _ => True) w' (.slice a 1 c) [⟨#[97, 98, 99]⟩]) ∧ Below w.heap.size w w') := fun t k w => by
    refine (pic_any t k w).mono ?_
    rintro e w' ⟨rfl, h1, h2⟩
    exact ⟨_, _, rfl, h1.mono (fun _ _ _ => trivial), h2⟩
  have ha : Hid (∀ (w : World) (v : Value), FrsIn (fun _ => True) w v [pf 1 false, pf 2 true, pf 3 false, pf 4 true] → Calls Try.prog 13 #[v] w fun e w' => ∃ b off cc fa fc a c, e = .returned (.tuple #[.slice (some ⟨b, off, none⟩) 1 cc, .agg #[.slice fa 1 fc], .int .i64 0]) ∧ w'.cell? ⟨b, off, none⟩ = some (.slice a 2 c) ∧ b < w'.heap.size ∧ Hid (FrsIn (fun _ => True) w' (.slice fa 1 fc) [pf 4 true]) ∧ Below w.heap.size w w') := fun w v hv => by
    refine (groupAll_any v _ w _ hv).mono ?_
    rw [gb_all.1, gb_all.2]
    rintro e w' ⟨ca, cc, fa, fc, rfl, h1, h2, hb⟩
    obtain ⟨ao, c', e1, _, _, hc⟩ := h1
    obtain ⟨b, off, e2, hbl, _, sv, hs, hf⟩ := hc 0 (by simp)
    obtain ⟨a, c, e3, _⟩ := hf.len
    injection e1 with e1 _ e4
    rw [e1, e2]
    rw [e3] at hs
    exact ⟨b, off, cc, fa, fc, a, c, rfl, by simpa using hs, hbl, h2.mono (fun _ _ _ => trivial), hb⟩
  have hz : Hid (∀ (w : World) (v : Value), FrsIn (fun _ => True) w v [pf 4 true] → Calls Try.prog 12 #[.agg #[v]] w fun e w' => e = .returned (.tuple #[.int .i64 3, .int .i64 0]) ∧ Below w.heap.size w w') := fun w v hv => by
    have := groupSize_any _ v _ w hv
    rw [gb_chk.1, gb_chk.2] at this
    exact this
  have hc : Hid (∀ (w : World) (v : Value), FrsIn (fun _ => True) w v [pf 4 true] → Calls Try.prog 18 #[.agg #[v]] w fun e w' => e = .returned (.int .i64 0) ∧ Below w.heap.size w w') := fun w v hv => by
    have := groupCheck_any _ v _ w hv
    rw [gb_chk.1] at this
    exact this
  go_enter Try.func17, Try.ntmps17
  go_wp2_with fail
  refine (hp.out 1 false _).mono ?_
  rintro e w1 ⟨a1, c1, rfl, s1, hb1⟩
  go_wp2_with fail
  refine (hp.out 2 true _).mono ?_
  rintro e w2 ⟨a2, c2, rfl, s2, hb2⟩
  go_wp2_with fail
  refine (hp.out 3 false _).mono ?_
  rintro e w3 ⟨a3, c3, rfl, s3, hb3⟩
  go_wp2_with fail
  refine (hp.out 4 true _).mono ?_
  rintro e w4 ⟨a4, c4, rfl, s4, hb4⟩
  have FR : Hid (FrsIn (fun _ => True) (w4.alloc (.cells #[.int .i64 1, .bool false, .slice a1 1 c1, .int .i64 2, .bool true, .slice a2 1 c2, .int .i64 3, .bool false, .slice a3 1 c3, .int .i64 4, .bool true, .slice a4 1 c4] 48)) (.slice (some ⟨w4.heap.size, 0, none⟩) 4 4) [pf 1 false, pf 2 true, pf 3 false, pf 4 true]) := by
    have h3 : StrsIn (fun _ => True) w4 (.slice a3 1 c3) [⟨#[97, 98, 99]⟩] := s3.out.below hb4
    have h2 : StrsIn (fun _ => True) w4 (.slice a2 1 c2) [⟨#[97, 98, 99]⟩] := (s2.out.below hb3).below hb4
    have h1 : StrsIn (fun _ => True) w4 (.slice a1 1 c1) [⟨#[97, 98, 99]⟩] := ((s1.out.below hb2).below hb3).below hb4
    have ho : OwnFrs w4.heap.size (fun _ => True) (w4.alloc (.cells #[.int .i64 1, .bool false, .slice a1 1 c1, .int .i64 2, .bool true, .slice a2 1 c2, .int .i64 3, .bool false, .slice a3 1 c3, .int .i64 4, .bool true, .slice a4 1 c4] 48)) (.slice (some ⟨w4.heap.size, 0, none⟩) 4 4) [pf 1 false, pf 2 true, pf 3 false, pf 4 true] :=
      ⟨[(pf 1 false, .slice a1 1 c1), (pf 2 true, .slice a2 1 c2), (pf 3 false, .slice a3 1 c3), (pf 4 true, .slice a4 1 c4)], rfl, World.ownsRow_lit w4 #[.int .i64 1, .bool false, .slice a1 1 c1, .int .i64 2, .bool true, .slice a2 1 c2, .int .i64 3, .bool false, .slice a3 1 c3, .int .i64 4, .bool true, .slice a4 1 c4] 4 (Nat.le_refl _) (by unfold maxLen; omega) rfl, fun p hp => by
        simp at hp
        rcases hp with rfl | rfl | rfl | rfl
        · exact h1.alloc _
        · exact h2.alloc _
        · exact h3.alloc _
        · exact s4.out.alloc _⟩
    exact ho.frsIn (fun _ _ _ => trivial) (fun _ _ => trivial)
  have B4 : Hid (Below w.heap.size w w4) := Below.on (Below.on (Below.on hb1 hb2) hb3) hb4
  clear hb1 hb2 hb3 hb4 s1 s2 s3 s4
  go_wp2_with fail
  refine (ha.out _ _ FR.out).mono ?_
  rintro e w5 ⟨b, off, cc, fa, fc, a, c, rfl, hcell, hbl, f5, hb5⟩
  have B5 : Hid (Below w.heap.size w w5) := (B4.out.alloc B4.out.size _).trans (hb5.mono (by have := B4.out.size; simp; omega))
  have K5 : Hid (Blk (w5.alloc (.cells #[.slice fa 1 fc] 35)) w5.heap.size #[.slice fa 1 fc] 35) := Blk.new _ _ _
  have C5 : Hid (w5.cell? ⟨b, off, none⟩ = some (.slice a 2 c)) := hcell
  clear hb5 hcell FR B4
  go_wp2_with fail
  refine (hz.out _ _ (f5.out.alloc _)).mono ?_
  rintro e w6 ⟨rfl, hb6⟩
  have k6 := (K5.out.below hb6 K5.out.lt).one
  have B56 : Hid (Below w5.heap.size w5 w6) := ((Below.refl _ w5).alloc (Nat.le_refl _) _).trans (hb6.mono (by simp))
  have K6 : Hid (Blk w6 w5.heap.size #[.slice fa 1 fc] 35) := K5.out.below hb6 K5.out.lt
  clear hb6
  go_wp2_with fail
  refine (hc.out _ _ (f5.out.below B56.out)).mono ?_
  rintro e w7 ⟨rfl, hb7⟩
  have k7 := (K6.out.below hb7 K6.out.lt).one
  have B57 : Hid (Below w5.heap.size w5 w7) := Below.on B56.out hb7
  have c7 := (B57.out.cell (p := ⟨b, off, none⟩) hbl).trans C5.out
  have B7 : Hid (Below w.heap.size w w7) := B5.out.trans (B57.out.mono B5.out.size)
  clear hb7 k6
  go_wp2
  go_ret
  exact ⟨rfl, B7.out⟩

end Go.Proofs.Ytgmnhbmjnllhhac
