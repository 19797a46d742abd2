/-
  Contract: group.All.
-/
import Derived.Test.YtnpaejknoipicaeGroupEach
namespace Go.Proofs.Ytnpaejknoipicae
open Go.RowKit

/-- what All answers lies in blocks of its own -/
def Fresh3 (base : Nat) (w : World) (cv fv : Value) (r : List (List Fr) × List Fr) : Prop := GrsIn (fun g => base ≤ g) w cv r.1 ∧ FrsIn (fun g => base ≤ g) w fv r.2

set_option maxHeartbeats 4000000 in
set_option maxRecDepth 100000 in
theorem groupAll_any (v : Value) (l : List Fr) (w : World) (S : Nat → Prop) (hv : FrsIn S w v l) :
    Calls Try.prog 57 #[v] w fun e w' => ∃ ca cc fa fc, e = .returned (.tuple #[.slice ca (groupsR l).1.length cc, .agg #[.slice fa (groupsR l).2.length fc], .int .i64 (groupsE l)]) ∧ GrsIn (fun g => w.heap.size ≤ g) w' (.slice ca (groupsR l).1.length cc) (groupsR l).1 ∧ FrsIn (fun g => w.heap.size ≤ g) w' (.slice fa (groupsR l).2.length fc) (groupsR l).2 ∧ Below w.heap.size w w' := by
  obtain ⟨a, c, hva, _, hl⟩ := hv.len
  have HV : Hid (FrsIn S w v l) := hv
  obtain ⟨n, hn⟩ : ∃ n, n = l.length := ⟨_, rfl⟩
  have HN : Hid (n = l.length) := hn
  obtain ⟨E, hE⟩ : ∃ E, E = groupsE l := ⟨_, rfl⟩
  obtain ⟨R, hR⟩ : ∃ R, R = groupsR l := ⟨_, rfl⟩
  have HE : Hid (E = if 100 < n then 2 else eachE l) := by show _ = _; rw [hE, hn]; rfl
  have HR : Hid (R = if E = 0 then upG l n else ([], [])) := by show _ = _; rw [hR, hE, hn]; rfl
  rw [← hn] at hva hl
  rw [← hE, ← hR]
  clear hv hn hE hR
  subst hva
  by_cases h1 : 100 < n
  · have hE2 : E = 2 := by rw [HE.out, if_pos h1]
    have hR2 : R = ([], []) := by rw [HR.out, hE2]; rfl
    rw [hE2, hR2]
    have hr := Blk.new w #[.slice none 0 0] 34
    have r0 := hr.one
    have r1 := hr.free 0
    have HBl : Hid (Below w.heap.size w (w.alloc (.cells #[.slice none 0 0] 34))) := (Below.refl _ w).alloc (Nat.le_refl _) _
    clear hr
    go_enter Try.func57, Try.ntmps57
    go_wp2
    exact bodyPost_ret (v := .tuple #[.slice none 0 0, .agg #[.slice none 0 0], .int .i64 2]) (by simp [results, Try.results57, go_sem]) rfl ⟨none, 0, none, 0, rfl, GrsIn.nil _ _, FrsIn.nil _ _, HBl.out⟩
  have hn100 : n ≤ 100 := by omega
  have HE2 : Hid (E = eachE l) := by show _ = _; rw [HE.out, if_neg h1]
  have HEA : Hid (∀ w' : World, GMk (w.heap.size + 1) (w.heap.size + 1) w' (.slice none 0 0) (.slice none 0 0) [] [] → FrsIn (fun g => g < w.heap.size + 1) w' (.slice a n c) l → Calls Try.prog 69 #[.slice a n c, .func (.func 70) #[.pointer (some ⟨w.heap.size + 1, 0, none⟩)] #[]] w' fun e w'' => e = .returned (.int .i64 E) ∧ (E = 0 → GMake (w.heap.size + 1) (w.heap.size + 1) w'' (upG l n).2 (upG l n).1) ∧ Below (w.heap.size + 1) w' w'') := fun w' h1 h2 => by
    have := groupEach_any (w.heap.size + 1) (w.heap.size + 1) (.slice a n c) l w' h1 (Nat.le_refl _) h2 (by rw [← HN.out]; exact hn100)
    rw [← HE2.out, ← HN.out] at this
    exact this
  clear HE h1
  go_enter Try.func57, Try.ntmps57
  have HM0 : Hid (GMk (w.heap.size + 1) (w.heap.size + 1) ((w.alloc (.cells #[.slice none 0 0] 34)).alloc (.cells #[.slice none 0 0, .slice none 0 0] 106)) (.slice none 0 0) (.slice none 0 0) [] []) := by
    refine ⟨?_, OwnFrs.nil _ _ _, OwnGrs.nil _ _ _⟩
    have := Blk.new (w.alloc (.cells #[.slice none 0 0] 34)) #[.slice none 0 0, .slice none 0 0] 106
    simp only [World.size_alloc] at this
    exact this
  have HV0 : Hid (FrsIn (fun g => g < w.heap.size + 1) ((w.alloc (.cells #[.slice none 0 0] 34)).alloc (.cells #[.slice none 0 0, .slice none 0 0] 106)) (.slice a n c) l) := ((HV.out.mono (S' := fun g => g < w.heap.size + 1) (fun g hg _ => by show g < _; omega)).alloc _).alloc _
  go_wp2_with fail
  refine (HEA.out _ HM0.out HV0.out).mono ?_
  rintro e w1 ⟨rfl, hmk, hb1⟩
  have kR : Blk w1 w.heap.size #[.slice none 0 0] 34 := ((Blk.new w #[.slice none 0 0] 34).alloc (.cells #[.slice none 0 0, .slice none 0 0] 106)).below hb1 (by omega)
  have B1 : Hid (Below w.heap.size w w1) := (((Below.refl _ w).alloc (Nat.le_refl _) _).alloc (by simp) _).trans (hb1.mono (by omega))
  have r0 := kR.one
  have r1 := kR.free 0
  by_cases hE0 : E = 0
  · obtain ⟨fv, cv, mk⟩ := hmk hE0
    have hR2 : R = upG l n := by rw [HR.out, if_pos hE0]
    rw [← hR2] at mk
    obtain ⟨kM, hF, hC⟩ := mk
    have GF : FrsIn (fun g => w.heap.size + 1 ≤ g) w1 fv R.2 := hF.frsIn (fun g _ h => h.1) (fun g hg => (hF.lt g hg).1)
    have GC : GrsIn (fun g => w.heap.size + 1 ≤ g) w1 cv R.1 := hC.grsIn (fun g _ h => h.1) (fun g hg => (hC.lt g hg).1)
    obtain ⟨fa, fc, efv, _⟩ := GF.len
    obtain ⟨ca, cc, ecv, _⟩ := GC.len
    obtain ⟨k0, k1⟩ := kM.two
    rw [efv] at GF k0
    rw [ecv] at GC k1
    have HGF : Hid (FrsIn (fun g => w.heap.size + 1 ≤ g) w1 (.slice fa R.2.length fc) R.2) := GF
    have HGC : Hid (GrsIn (fun g => w.heap.size + 1 ≤ g) w1 (.slice ca R.1.length cc) R.1) := GC
    obtain ⟨nF, hnF⟩ : ∃ nF, nF = R.2.length := ⟨_, rfl⟩
    obtain ⟨nC, hnC⟩ : ∃ nC, nC = R.1.length := ⟨_, rfl⟩
    rw [← hnF] at HGF k0
    rw [← hnC] at HGC k1
    have HNF : Hid (nF = R.2.length) := hnF
    have HNC : Hid (nC = R.1.length) := hnC
    have hne : ¬ w.heap.size + 1 = w.heap.size := by omega
    have hMl := kM.lt
    subst hE0
    clear hmk hb1 kR kM hF hC efv ecv GF GC hR2 hnF hnC
    go_wp2_with fail
    go_region
    all_goals
      go_wp2
      refine bodyPost_ret (v := .tuple #[.slice ca nC cc, .agg #[.slice fa nF fc], .int .i64 0]) (by simp [results, Try.results57, go_sem, r0]) rfl ⟨ca, cc, fa, fc, by rw [HNC.out, HNF.out], ?_, ?_, ?_⟩
      · rw [← HNC.out]
        exact HGC.out.to (SameOn.setCell (fun g (hg : w.heap.size + 1 ≤ g) => by show g ≠ w.heap.size; omega) _) (fun g _ hg => by omega)
      · rw [← HNF.out]
        exact HGF.out.to (SameOn.setCell (fun g (hg : w.heap.size + 1 ≤ g) => by show g ≠ w.heap.size; omega) _) (fun g _ hg => by omega)
      · exact (B1.out.setCell (by simp) _).drew
  · have hR2 : R = ([], []) := by rw [HR.out, if_neg hE0]
    have HR2 : Hid (R = ([], [])) := hR2
    clear hmk hb1 kR hR2
    go_wp2
    refine bodyPost_ret (v := .tuple #[.slice none 0 0, .agg #[.slice none 0 0], .int .i64 E]) (by simp [results, Try.results57, go_sem, r0]) rfl ?_
    rw [HR2.out]
    exact ⟨none, 0, none, 0, rfl, GrsIn.nil _ _, FrsIn.nil _ _, B1.out.setCell (by simp) _⟩

end Go.Proofs.Ytnpaejknoipicae
