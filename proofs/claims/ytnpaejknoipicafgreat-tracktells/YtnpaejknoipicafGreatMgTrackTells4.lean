/-
  The walk of TrackTells (by program: reg/tracktells.py).
-/
import Derived.Test.YtnpaejknoipicafGreatMgTrackTells3
import Derived.Test.YtnpaejknoipicafGreatMgTrackTells2
import Derived.Deep.DeepCutAuto
import Derived.Test.YtnpaejknoipicafGreatRefAdd
import Derived.Test.YtnpaejknoipicafGreatMgTrackTells1
import Derived.Test.YtnpaejknoipicafGreatRefRel
import Derived.Test.YtnpaejknoipicafGreatRegApp
import Derived.Test.YtnpaejknoipicafGreatCountWalk
import Derived.Test.YtnpaejknoipicafGreatSlices
import Derived.Handy
import Derived.Test.YtnpaejknoipicafGreatRefBetween
import Derived.Deep.QuietTactic
import Derived.BigQuiet
import Derived.Test.YtnpaejknoipicafGreatRefBuild
import Derived.Test.YtnpaejknoipicafGreatRefBuf
import Derived.Test.YtnpaejknoipicafGreatRefSlot
import Derived.Lib.QuietBelow

namespace Go.Proofs.YtnpaejknoipicafGreat
open Go.RowKit

set_option maxHeartbeats 8000000 in
set_option maxRecDepth 100000 in
theorem refStoreAdd_in (S : Nat → Prop) (first : Int) (gv ov pv : Value) (L : List (List Fr)) (O : List Fr) (f : Fr) (w : World) (hg : GrsIn S w gv L) (ho : FrsIn S w ov O) (hp : StrsIn S w pv f.parts) (hr : stchk first L O = 0) (hf : f.chk = 0) :
    Calls Tryz.prog 13 #[.agg #[.int .i64 first, gv, ov], .agg #[.int .i64 f.time, .bool f.key, pv]] w fun e w' => ∃ gv' ov', e = .returned (.tuple #[.agg #[.int .i64 (addsF first L O f), gv', ov'], .bool (addsB first L O f), .int .i64 (addsE first L O f)]) ∧ GrsIn (fun g => S g ∨ w.heap.size ≤ g) w' gv' (addsL first L O f) ∧ FrsIn (fun g => S g ∨ w.heap.size ≤ g) w' ov' (addsO first L O f) ∧ Below w.heap.size w w' := by
  obtain ⟨r1, r2, r3, r4, _, r6⟩ := stchk_zero.1 hr
  have hO6 : O.length ≤ 6 := by
    rcases r6 with r6 | r6
    · rw [r6]; simp
    · exact (gchk_zero.1 r6).2.1
  obtain ⟨ga, gc, eg, _, _⟩ := hg.len
  obtain ⟨oa, oc, eo, _, _⟩ := ho.len
  obtain ⟨pa, pc, ep⟩ := hp.1.len
  obtain ⟨ln, hln⟩ : ∃ n, n = L.length := ⟨_, rfl⟩
  obtain ⟨lo, hlo⟩ : ∃ n, n = O.length := ⟨_, rfl⟩
  obtain ⟨pn, hpn⟩ : ∃ n, n = f.parts.length := ⟨_, rfl⟩
  rw [← hln] at eg
  rw [← hlo] at eo
  rw [← hpn] at ep
  obtain ⟨ft, hft⟩ : ∃ t, t = f.time := ⟨_, rfl⟩
  obtain ⟨fk, hfk⟩ : ∃ t, t = f.key := ⟨_, rfl⟩
  obtain ⟨M, hM⟩ : ∃ M, M = L ++ closedG O f := ⟨_, rfl⟩
  obtain ⟨cl, hcl⟩ : ∃ c, c = (f.key && decide (0 < O.length)) := ⟨_, rfl⟩
  obtain ⟨D, hD⟩ : ∃ D, D = trimD M := ⟨_, rfl⟩
  obtain ⟨Q, hQ⟩ : ∃ Q, Q = growG O f := ⟨_, rfl⟩
  obtain ⟨nq, hnq⟩ : ∃ n, n = Q.length := ⟨_, rfl⟩
  obtain ⟨E, hE⟩ : ∃ E, E = addsE first L O f := ⟨_, rfl⟩
  have HE : Hid (E = if 100000 < first + (D : Int) then 2 else 0) := by show _ = _; rw [hE, hD, hM]; unfold addsE; rw [if_pos hr, if_pos hf]
  have HBAD : Hid (¬ E = 0 → addsF first L O f = 0 ∧ addsL first L O f = [] ∧ addsO first L O f = [] ∧ addsB first L O f = false) := fun h => addsE_bad (by rw [← hE]; exact h)
  have HGOOD : Hid (E = 0 → addsF first L O f = first + D ∧ addsL first L O f = M.drop D ∧ addsO first L O f = Q ∧ addsB first L O f = cl) := fun h => by
    rw [hE] at h
    obtain ⟨_, _, _, e1, e2, e3, e4⟩ := addsE_zero h
    rw [hD, hM, hQ, hcl]
    refine ⟨e1, e2, e3, ?_⟩
    rw [e4]
    unfold closedG
    cases (f.key && decide (0 < O.length)) <;> rfl
  have HMC : Hid ((cl = false → M = L) ∧ (cl = true → M = L ++ [O])) := by
    rw [hM, hcl]; unfold closedG
    exact ⟨fun h => by rw [h]; simp, fun h => by rw [h]; simp⟩
  have HM : Hid ((∀ g ∈ M, gchk g = 0) ∧ M.length ≤ 6) := by
    rw [hM]
    rcases closedG_cases O f with ⟨e, _⟩ | ⟨e, _, h0⟩
    · rw [e, List.append_nil]; exact ⟨r4, by omega⟩
    · rw [e]
      refine ⟨fun g hg => ?_, by simp; omega⟩
      rcases List.mem_append.1 hg with hg | hg
      · exact r4 g hg
      · simp at hg; subst hg
        rcases r6 with r6 | r6
        · rw [r6] at h0; simp at h0
        · exact r6
  have HTR : Hid (∀ (S : Nat → Prop) (v : Value) (U : World), GrsIn S U v M → Calls Tryz.prog 54 #[.int .i64 first, v] U fun e w' => ∃ v', e = .returned (.tuple #[.int .i64 (first + D), v']) ∧ GrsIn S w' v' (M.drop D) ∧ Below U.heap.size U w') := fun S v U h => by
    rw [hD]; exact trimmed_any S M first v U h HM.out.1 (by have := HM.out.2; omega) (by omega) (by have := HM.out.2; omega)
  have HGR : Hid (∀ U, Below w.heap.size w U → Calls Tryz.prog 53 #[.agg #[ov], .agg #[.int .i64 ft, .bool fk, pv]] U fun e w' => ∃ a c, e = .returned (.tuple #[.agg #[.slice a nq c], .bool cl]) ∧ Hid (FrsIn (fun b => (S b ∧ b < w.heap.size) ∨ U.heap.size ≤ b) w' (.slice a nq c) Q) ∧ Below U.heap.size U w') := fun U hU => by
    have := growOf_any (fun g => S g ∧ g < w.heap.size) ov O f pv U ((ho.mono fun g h h' => ⟨h', h⟩).below hU) ((hp.mono fun g h h' => ⟨h', h⟩).below hU) hO6
    rw [← hft, ← hfk, ← hQ, ← hnq, hfk, ← hcl, ← hfk] at this
    exact this
  have hD6 : D ≤ 5 := by have := trimD_le M; have := HM.out.2; omega
  have HG : Hid (GrsIn (fun g => S g ∧ g < w.heap.size) w gv L) := hg.mono fun g h h' => ⟨h', h⟩
  have HO : Hid (FrsIn (fun g => S g ∧ g < w.heap.size) w ov O) := ho.mono fun g h h' => ⟨h', h⟩
  have HL : Hid (L.length ≤ 5) := r3
  rw [← hft, ← hfk, ← hE]
  clear hg ho hp hr hf r3 r4 r6 hO6 hft hfk hM hcl hD hQ hnq hE hln hlo hpn
  subst eg eo ep
  go_enter Tryz.func13, Tryz.ntmps13
  go_wp2_with fail
  obtain ⟨W0, hW0⟩ : ∃ W0, W0 = ((w.alloc (.cells #[.int .i64 first, .slice ga ln gc, .slice oa lo oc] 27)).alloc (.cells #[.int .i64 ft, .bool fk, .slice pa pn pc] 30)).alloc (.cells #[.int .i64 0, .slice none 0 0, .slice none 0 0] 27) := ⟨_, rfl⟩
  have z0 : W0.heap.size = w.heap.size + 3 := by rw [hW0]; simp
  have HS0 : Hid (Stay W0 (fun U => Blk U w.heap.size #[.int .i64 first, .slice ga ln gc, .slice oa lo oc] 27 ∧ Blk U (w.heap.size + 2) #[.int .i64 0, .slice none 0 0, .slice none 0 0] 27 ∧ GrsIn (fun g => S g ∧ g < w.heap.size) U (.slice ga ln gc) L ∧ FrsIn (fun g => S g ∧ g < w.heap.size) U (.slice oa lo oc) O ∧ Below w.heap.size w U)) := by
    have hb : Below w.heap.size w W0 := by rw [hW0]; exact (((Below.refl _ _).alloc (Nat.le_refl _) _).alloc (by simp) _).alloc (by simp; omega) _
    have k1 : Blk W0 w.heap.size #[.int .i64 first, .slice ga ln gc, .slice oa lo oc] 27 := by rw [hW0]; exact ((Blk.new _ _ _).alloc _).alloc _
    have k2 : Blk W0 (w.heap.size + 2) #[.int .i64 0, .slice none 0 0, .slice none 0 0] 27 := by
      have := Blk.newE hW0
      simpa using this
    exact k1.stay.and (k2.stay.and ((HG.out.below hb).stay.and ((HO.out.below hb).stay.and (below_stay hb (by omega)))))
  rw [← hW0]
  clear hW0 HG HO
  refine (HGR.out _ HS0.out.now.2.2.2.2).mono ?_
  rintro e w1 ⟨a1, c1, rfl, F1, b1⟩
  have hs1 := b1.size
  obtain ⟨V, hV⟩ : ∃ V, V = (w1.alloc (.cells #[.slice a1 nq c1] 25)).alloc (.cells #[.int .i64 0, .slice none 0 0, .slice a1 nq c1] 27) := ⟨_, rfl⟩
  have zV : V.heap.size = w1.heap.size + 2 := by rw [hV]; simp
  have HSV : Hid (Stay V (fun U => (Blk U (w1.heap.size + 1) #[.int .i64 0, .slice none 0 0, .slice a1 nq c1] 27 ∧ FrsIn (fun g => ((S g ∧ g < w.heap.size) ∨ w.heap.size + 3 ≤ g) ∧ g < w1.heap.size) U (.slice a1 nq c1) Q) ∧ Blk U w.heap.size #[.int .i64 first, .slice ga ln gc, .slice oa lo oc] 27 ∧ Blk U (w.heap.size + 2) #[.int .i64 0, .slice none 0 0, .slice none 0 0] 27 ∧ GrsIn (fun g => S g ∧ g < w.heap.size) U (.slice ga ln gc) L ∧ FrsIn (fun g => S g ∧ g < w.heap.size) U (.slice oa lo oc) O ∧ Below w.heap.size w U)) := by
    have k1 : Blk V (w1.heap.size + 1) #[.int .i64 0, .slice none 0 0, .slice a1 nq c1] 27 := by
      have := Blk.newE hV
      simpa using this
    have k2 : FrsIn (fun g => ((S g ∧ g < w.heap.size) ∨ w.heap.size + 3 ≤ g) ∧ g < w1.heap.size) V (.slice a1 nq c1) Q := by
      rw [hV]; exact ((F1.out.mono fun g h1 h2 => ⟨h2.imp id (fun h => by omega), h1⟩).alloc _).alloc _
    have k3 := (((HS0.out.step b1).alloc (.cells #[.slice a1 nq c1] 25)).allocE hV).out
    exact (k1.stay.and k2.stay).and k3
  obtain ⟨v3, w3, r3, o3, b3⟩ := groups_copyS (S := fun g => S g ∧ g < w.heap.size) (fun g hg => by have := hg.2; omega) HSV.out.now.2.2.2.1 (by have := HL.out; omega)
  have HS3 := Stay.go HSV b3
  obtain ⟨v5, w5, r5, o5, b5⟩ := groups_snocS (S := fun g => S g ∧ g < w.heap.size) (fun g hg => by have := hg.2; omega) o3 HS3.out.now.2.2.2.2.1 (by have := HL.out; omega) b3.size
  have b35 : Below V.heap.size V w5 := b3.trans (b5.mono (Nat.le_refl _))
  have HS5 := Stay.go HSV b35
  have HR3 : Hid (GrsIn (fun g => (S g ∧ g < w.heap.size) ∨ V.heap.size ≤ g) w3 v3 L) := o3.grsIn (fun g _ h => .inl h) (fun g h => .inr (o3.lt g h).1)
  have HR5 : Hid (GrsIn (fun g => (S g ∧ g < w.heap.size) ∨ V.heap.size ≤ g) w5 v5 (L ++ [O])) := o5.grsIn (fun g _ h => .inl h) (fun g h => .inr (o5.lt g h).1)
  have r3' : (Builtin.append_ #[22, 22] 22 #[.slice (some ⟨w1.heap.size + 2, 0, none⟩) 0 0, .slice ga ln gc]).run Tryz.prog (((w1.alloc (.cells #[.slice a1 nq c1] 25)).alloc (.cells #[.int .i64 0, .slice none 0 0, .slice a1 nq c1] 27)).alloc (.cells #[] 25)) = .ok v3 w3 := by
    rw [show w1.heap.size + 2 = V.heap.size by omega, ← hV]; exact r3
  -- behind the groups: one way for both
  have HREST : Hid (∀ (v : Value) (U : World), GrsIn (fun g => (S g ∧ g < w.heap.size) ∨ V.heap.size ≤ g) U v M → True) := fun _ _ _ => trivial
  obtain ⟨k0, k1, k2⟩ := (HS0.out.step b1).now.1.three
  obtain ⟨m0, m1, m2⟩ := (HSV.out.alloc (.cells #[] 25)).now.2.1.three
  have hlt1 : w.heap.size < w1.heap.size := by omega
  have hlt2 : w.heap.size + 2 < w1.heap.size := by omega
  obtain ⟨q0, q1, q2⟩ := HS3.out.now.2.1.three
  obtain ⟨p0, p1, p2⟩ := HS5.out.now.2.1.three
  obtain ⟨Z, hZ⟩ : ∃ Z, Z = V.heap.size := ⟨_, rfl⟩
  rw [← hZ] at HR3 HR5
  have hZ2 : Z = w1.heap.size + 2 := by omega
  clear r3 o3 o5 b3 b5 b35 HREST HS0 b1 F1 HGR hZ HSV zV
  subst hV
  go_upto_if 24 with (at_builtin; refine wpList_append_run rfl (.tmp 20) (.tmp 22) 22 22 rfl _ _ rfl rfl r3' ?_)
  go_cut [10] (fun s10 wc => Hid (GrsIn (fun g => (S g ∧ g < w.heap.size) ∨ Z ≤ g) wc s10 M) ∧ Hid (Stay wc (fun U => (Blk U (w1.heap.size + 1) #[.int .i64 0, .slice none 0 0, .slice a1 nq c1] 27 ∧ FrsIn (fun g => ((S g ∧ g < w.heap.size) ∨ w.heap.size + 3 ≤ g) ∧ g < w1.heap.size) U (.slice a1 nq c1) Q) ∧ Blk U w.heap.size #[.int .i64 first, .slice ga ln gc, .slice oa lo oc] 27 ∧ Blk U (w.heap.size + 2) #[.int .i64 0, .slice none 0 0, .slice none 0 0] 27 ∧ GrsIn (fun g => S g ∧ g < w.heap.size) U (.slice ga ln gc) L ∧ FrsIn (fun g => S g ∧ g < w.heap.size) U (.slice oa lo oc) O ∧ Below w.heap.size w U)))
  case first =>
    cases cl
    · have hM : Hid (M = L) := HMC.out.1 rfl
      go_wp2_with fail
      go_meet
      case rel => exact ⟨by rw [hM.out]; exact HR3.out, HS3.out⟩
    · have hM : Hid (M = L ++ [O]) := HMC.out.2 rfl
      go_wp2_with (at_builtin; refine wpList_append_run rfl (.tmp 25) (.tmp 28) 22 22 rfl _ _ rfl rfl r5 ?_)
      go_meet
      case rel => exact ⟨by rw [hM.out]; exact HR5.out, HS5.out⟩
  case rest =>
    obtain ⟨HGM, HS6⟩ := hcut
    clear HR3 HR5 r3' r5 HS3 HS5 k0 k1 k2 m0 m1 m2 q0 q1 q2 p0 p1 p2 HMC
    obtain ⟨k0, k1, k2⟩ := HS6.out.now.2.1.three
    go_wp2_with fail
    refine (HTR.out _ _ _ HGM.out).mono ?_
    rintro e w7 ⟨v7, rfl, G7, b7⟩
    obtain ⟨va, vc, ev, _, _⟩ := G7.len
    obtain ⟨nv, hnv⟩ : ∃ n, n = (M.drop D).length := ⟨_, rfl⟩
    rw [← hnv] at ev
    clear hnv
    subst ev
    have HS7 := Stay.go HS6 b7
    have HG7 : Hid (GrsIn (fun g => (S g ∧ g < w.heap.size) ∨ Z ≤ g) w7 (.slice va nv vc) (M.drop D)) := G7
    clear b7 G7 HS6 k0 k1 k2 HGM HTR
    have X7 := HS7.out.now.1.1
    have R7 := HS7.out.now.2.2.1
    have hXl := X7.lt
    have hRl := R7.lt
    obtain ⟨x0, x1, x2⟩ := X7.three
    obtain ⟨y0, y1, y2⟩ := R7.three
    have f0 := X7.free
    have f1 := R7.free
    obtain ⟨Y, hY⟩ : ∃ Y, Y = (w7.setCell ⟨w1.heap.size + 1, 0, none⟩ (.int .i64 (first + D))).setCell ⟨w1.heap.size + 1, 1, none⟩ (.slice va nv vc) := ⟨_, rfl⟩
    have XY : Blk Y (w1.heap.size + 1) #[.int .i64 (first + D), .slice va nv vc, .slice a1 nq c1] 27 := by
      rw [hY]; exact (X7.set 0 (.int .i64 (first + D))).set 1 (.slice va nv vc)
    have RY : Blk Y (w.heap.size + 2) #[.int .i64 0, .slice none 0 0, .slice none 0 0] 27 := by
      rw [hY]; exact (R7.other (a := ⟨w1.heap.size + 1, 0, none⟩) (by simp; omega) _).other (a := ⟨w1.heap.size + 1, 1, none⟩) (by simp; omega) _
    have hYo : ∀ g, g ≠ w1.heap.size + 1 → Y.heap[g]? = w7.heap[g]? := fun g hg => by
      rw [hY, Below.heap_setCell _ _ _ _ (by exact hg), Below.heap_setCell _ _ _ _ (by exact hg)]
    have hYs : Y.heap.size = w7.heap.size := by rw [hY]; simp
    have BY : Below w.heap.size w Y := by
      rw [hY]; exact (HS7.out.now.2.2.2.2.2.setCell (by simp; omega) _).setCell (by simp; omega) _
    have finish : ∀ (u0 u1 u2 : Value) (U : World), U = ((Y.setCell ⟨w.heap.size + 1 + 1, 0, none⟩ u0).setCell ⟨w.heap.size + 1 + 1, 1, none⟩ u1).setCell ⟨w.heap.size + 1 + 1, 2, none⟩ u2 → Blk U (w.heap.size + 2) #[u0, u1, u2] 27 ∧ (∀ g, g ≠ w1.heap.size + 1 → g ≠ w.heap.size + 2 → U.heap[g]? = w7.heap[g]?) ∧ U.heap.size = w7.heap.size ∧ Below w.heap.size w U := fun u0 u1 u2 U hU => by
      refine ⟨by rw [hU]; exact ((RY.set 0 u0).set 1 u1).set 2 u2, fun g h1 h2 => ?_, by rw [hU]; simpa using hYs, ?_⟩
      · rw [hU, Below.heap_setCell _ _ _ _ (by exact h2), Below.heap_setCell _ _ _ _ (by exact h2), Below.heap_setCell _ _ _ _ (by exact h2)]
        exact hYo g h1
      · rw [hU]; exact ((BY.setCell (by simp; omega) _).setCell (by simp; omega) _).setCell (by simp; omega) _
    have HFIN : Hid (∀ (u0 u1 u2 : Value) (U : World), U = ((Y.setCell ⟨w.heap.size + 1 + 1, 0, none⟩ u0).setCell ⟨w.heap.size + 1 + 1, 1, none⟩ u1).setCell ⟨w.heap.size + 1 + 1, 2, none⟩ u2 → Blk U (w.heap.size + 2) #[u0, u1, u2] 27 ∧ (∀ g, g ≠ w1.heap.size + 1 → g ≠ w.heap.size + 2 → U.heap[g]? = w7.heap[g]?) ∧ U.heap.size = w7.heap.size ∧ Below w.heap.size w U) := finish
    have HQ7 : Hid (FrsIn (fun g => ((S g ∧ g < w.heap.size) ∨ w.heap.size + 3 ≤ g) ∧ g < w1.heap.size) w7 (.slice a1 nq c1) Q) := HS7.out.now.1.2
    have hne1 : ¬ w1.heap.size + 1 = w.heap.size + 1 + 1 := by omega
    have hne2 : ¬ w.heap.size + 1 + 1 = w1.heap.size + 1 := by omega
    clear finish X7 R7 XY RY hYo hYs BY HS7
    by_cases hbig : 100000 < first + (D : Int)
    · have hE : E = 2 := by rw [HE.out, if_pos hbig]
      obtain ⟨e1, e2, e3, e4⟩ := HBAD.out (by rw [hE]; decide)
      have HEE : Hid (E = 2 ∧ addsF first L O f = 0 ∧ addsL first L O f = [] ∧ addsO first L O f = [] ∧ addsB first L O f = false) := ⟨hE, e1, e2, e3, e4⟩
      obtain ⟨U, hU⟩ : ∃ U, U = ((Y.setCell ⟨w.heap.size + 1 + 1, 0, none⟩ (.int .i64 0)).setCell ⟨w.heap.size + 1 + 1, 1, none⟩ (.slice none 0 0)).setCell ⟨w.heap.size + 1 + 1, 2, none⟩ (.slice none 0 0) := ⟨_, rfl⟩
      obtain ⟨n1, n2, n3, n4⟩ := HFIN.out _ _ _ U hU
      have HU3 : Hid (Blk U (w.heap.size + 1 + 1) _ _) := n1
      have HN4 : Hid (Below w.heap.size w U) := n4
      rw [hY] at hU
      clear HBAD HGOOD HE hE e1 e2 e3 e4 HFIN n1 n2 n3 n4 hY
      go_wp2_with fail
      rw [← hU]
      obtain ⟨u0, u1, u2⟩ := HU3.out.three
      obtain ⟨h1, h2, h3, h4, h5⟩ := HEE.out
      rw [h1, h2, h3, h4, h5]
      exact bodyPost_ret (v := .tuple #[.agg #[.int .i64 0, .slice none 0 0, .slice none 0 0], .bool false, .int .i64 2]) (by simp [results, Tryz.results13, go_sem, u0, u1, u2]) rfl ⟨_, _, rfl, GrsIn.nil _ _, FrsIn.nil _ _, HN4.out⟩
    · have hE : E = 0 := by rw [HE.out, if_neg hbig]
      obtain ⟨e1, e2, e3, e4⟩ := HGOOD.out hE
      have HEE : Hid (E = 0 ∧ addsF first L O f = first + D ∧ addsL first L O f = M.drop D ∧ addsO first L O f = Q ∧ addsB first L O f = cl) := ⟨hE, e1, e2, e3, e4⟩
      obtain ⟨U, hU⟩ : ∃ U, U = ((Y.setCell ⟨w.heap.size + 1 + 1, 0, none⟩ (.int .i64 (first + D))).setCell ⟨w.heap.size + 1 + 1, 1, none⟩ (.slice va nv vc)).setCell ⟨w.heap.size + 1 + 1, 2, none⟩ (.slice a1 nq c1) := ⟨_, rfl⟩
      obtain ⟨n1, n2, n3, n4⟩ := HFIN.out _ _ _ U hU
      have GU : Hid (GrsIn (fun g => S g ∨ w.heap.size ≤ g) U (.slice va nv vc) (M.drop D)) := HG7.out.to ⟨by omega, fun g _ hg => n2 g (by rcases hg with hg | hg <;> omega) (by rcases hg with hg | hg <;> omega)⟩ (fun g _ h => h.imp (fun h => h.1) (fun h => by omega))
      have FU : Hid (FrsIn (fun g => S g ∨ w.heap.size ≤ g) U (.slice a1 nq c1) Q) := HQ7.out.to ⟨by omega, fun g _ hg => n2 g (by have := hg.2; omega) (by rcases hg.1 with h | h <;> omega)⟩ (fun g _ h => h.1.imp (fun h => h.1) (fun h => by omega))
      have HU3 : Hid (Blk U (w.heap.size + 1 + 1) _ _) := n1
      have HN4 : Hid (Below w.heap.size w U) := n4
      rw [hY] at hU
      clear HBAD HGOOD HE hE e1 e2 e3 e4 HFIN n1 n2 n3 n4 hY
      go_wp2_with fail
      rw [← hU]
      obtain ⟨u0, u1, u2⟩ := HU3.out.three
      obtain ⟨h1, h2, h3, h4, h5⟩ := HEE.out
      rw [h1, h2, h3, h4, h5]
      exact bodyPost_ret (v := .tuple #[.agg #[.int .i64 (first + D), .slice va nv vc, .slice a1 nq c1], .bool cl, .int .i64 0]) (by simp [results, Tryz.results13, go_sem, u0, u1, u2]) rfl ⟨_, _, rfl, GU.out, FU.out, HN4.out⟩

theorem refStoreAdd_any (first : Int) (gv ov pv : Value) (L : List (List Fr)) (O : List Fr) (f : Fr) (w : World) (hg : GrsIn (fun _ => True) w gv L) (ho : FrsIn (fun _ => True) w ov O) (hp : StrsIn (fun _ => True) w pv f.parts) (hr : stchk first L O = 0) (hf : f.chk = 0) :
    Calls Tryz.prog 13 #[.agg #[.int .i64 first, gv, ov], .agg #[.int .i64 f.time, .bool f.key, pv]] w fun e w' => ∃ gv' ov', e = .returned (.tuple #[.agg #[.int .i64 (addsF first L O f), gv', ov'], .bool (addsB first L O f), .int .i64 (addsE first L O f)]) ∧ GrsIn (fun _ => True) w' gv' (addsL first L O f) ∧ FrsIn (fun _ => True) w' ov' (addsO first L O f) ∧ Below w.heap.size w w' := by
  refine (refStoreAdd_in (fun _ => True) first gv ov pv L O f w hg ho hp hr hf).mono ?_
  rintro e w' ⟨gv', ov', rfl, h1, h2, h3⟩
  exact ⟨gv', ov', rfl, h1.mono (fun _ _ _ => trivial), h2.mono (fun _ _ _ => trivial), h3⟩

end Go.Proofs.YtnpaejknoipicafGreat

namespace Go.Proofs.YtnpaejknoipicafGreat
open Go.RowKit

theorem SlsIn.keptR {S : Nat → Prop} {K : List Nat} {w w' : World} {v : Value} {l : List Sk} (h : SlsIn S w v l) (hk : Kept K w w') (hS : ∀ g, S g → g ∉ K) : SlsIn S w' v l := h.to ⟨hk.size, fun g hg hs => hk.block g hg (hS g hs)⟩ (fun _ _ h => h)
theorem SlsIn.atR {S : Nat → Prop} {w : World} {ao : Option Addr} {n c k : Nat} {l : List Sk} (h : SlsIn S w (.slice ao n c) l) (hk : k < l.length) : ∃ b off, ao = some ⟨b, off, none⟩ ∧ b < w.heap.size ∧ At7 w b (off + k * 7) (l[k]?.getD Sk.zero) := by
  obtain ⟨ao', c', e, hc⟩ := h.1.parts
  injection e with e1 _ _
  subst e1
  exact hc k hk
theorem tkN_dropR {l : List Sk} {k : Nat} (hk : k < l.length) (s : Tr × Nat) : tkN (l.drop k) s = if (tk1 s.1 (l[k]?.getD Sk.zero)).2.2 = 0 then tkN (l.drop (k + 1)) ((tk1 s.1 (l[k]?.getD Sk.zero)).1, s.2 + (tk1 s.1 (l[k]?.getD Sk.zero)).2.1) else (Tr.zero, 0, (tk1 s.1 (l[k]?.getD Sk.zero)).2.2) := by
  rw [List.drop_eq_getElem_cons hk, List.getElem?_eq_getElem hk, Option.getD_some]
  rfl
theorem tk1_leR (t : Tr) (x : Sk) : (tk1 t x).2.1 ≤ 1 := by
  unfold tk1
  cases addW t.o x
  · exact Nat.zero_le _
  · simp only [if_true]
    split <;> omega
theorem seven_belowR {B A : Nat} {w V : World} (h : Below B w V) (hA : B ≤ A) (x0 x1 x2 x3 x4 x5 x6 : Value) : Below B w (((((((V.setCell ⟨A, 0, none⟩ x0).setCell ⟨A, 1, none⟩ x1).setCell ⟨A, 2, none⟩ x2).setCell ⟨A, 3, none⟩ x3).setCell ⟨A, 4, none⟩ x4).setCell ⟨A, 5, none⟩ x5).setCell ⟨A, 6, none⟩ x6) :=
  ((((((h.setCell (by exact hA) _).setCell (by exact hA) _).setCell (by exact hA) _).setCell (by exact hA) _).setCell (by exact hA) _).setCell (by exact hA) _).setCell (by exact hA) _
theorem Blk.sixq {w : World} {b : Nat} {x0 x1 x2 x3 x4 x5 : Value} {t : TypeId} (h : Blk w b #[x0, x1, x2, x3, x4, x5] t) : w.cell? ⟨b, 0, none⟩ = some x0 ∧ w.cell? ⟨b, 1, none⟩ = some x1 ∧ w.cell? ⟨b, 2, none⟩ = some x2 ∧ w.cell? ⟨b, 3, none⟩ = some x3 ∧ w.cell? ⟨b, 4, none⟩ = some x4 ∧ w.cell? ⟨b, 5, none⟩ = some x5 :=
  ⟨h.cell rfl, h.cell rfl, h.cell rfl, h.cell rfl, h.cell rfl, h.cell rfl⟩
theorem Kept.sameTo {S : List Nat} {X : Nat → Prop} {w w' : World} (h : Kept S w w') (hx : ∀ g, X g → g ∉ S) : SameOn X w w' := ⟨h.size, fun g hg hX => h.block g hg (hx g hX)⟩

set_option maxHeartbeats 16000000 in
set_option maxRecDepth 100000 in
theorem taken_in (S : Nat → Prop) (t : Tr) (hv bv gv ov v : Value) (l : List Sk) (w : World) (hr : TrIn S w hv bv gv ov t) (hS : ∀ g, w.heap.size ≤ g → S g) (hok : TkOk t) (hsl : SlsIn (fun _ => True) w v l) (hch : ∀ x ∈ l, x.chk = 0) (hlen : l.length ≤ 100) :
    Calls Tryz.prog 76 #[.agg #[.int .i64 t.last, .int .i64 t.next, hv, bv, .int .i64 t.first, gv, ov], v] w fun e w' => ∃ hv' bv' gv' ov', e = .returned (.tuple #[.agg #[.int .i64 (tkN l (t, 0)).1.last, .int .i64 (tkN l (t, 0)).1.next, hv', bv', .int .i64 (tkN l (t, 0)).1.first, gv', ov'], .int .i64 (tkN l (t, 0)).2.1, .int .i64 (tkN l (t, 0)).2.2]) ∧ TrIn S w' hv' bv' gv' ov' (tkN l (t, 0)).1 ∧ Below w.heap.size w w' := by
  obtain ⟨hA, hC, bA, bC, gA, gC, oA, oC, eh, eb, eg, eo⟩ := hr.slices
  obtain ⟨va, vc, ev⟩ := hsl.len
  obtain ⟨n, hn⟩ : ∃ x, x = l.length := ⟨_, rfl⟩
  obtain ⟨R, hR⟩ : ∃ x, x = tkN l (t, 0) := ⟨_, rfl⟩
  obtain ⟨last, hla⟩ : ∃ x, x = t.last := ⟨_, rfl⟩
  obtain ⟨next, hne⟩ : ∃ x, x = t.next := ⟨_, rfl⟩
  obtain ⟨first, hfi⟩ : ∃ x, x = t.first := ⟨_, rfl⟩
  obtain ⟨hN, hhN⟩ : ∃ x, x = t.h.length := ⟨_, rfl⟩
  obtain ⟨bN, hbN⟩ : ∃ x, x = t.o.length := ⟨_, rfl⟩
  obtain ⟨lN, hlN⟩ : ∃ x, x = t.L.length := ⟨_, rfl⟩
  obtain ⟨oN, hoN⟩ : ∃ x, x = t.O.length := ⟨_, rfl⟩
  rw [← hn] at ev hlen
  rw [← hhN] at eh
  rw [← hbN] at eb
  rw [← hlN] at eg
  rw [← hoN] at eo
  have HN : Hid (n = l.length) := hn
  have HRR : Hid (R = tkN (l.drop 0) (t, 0)) := by rw [List.drop_zero]; exact hR
  have HCH : Hid (∀ x ∈ l, x.chk = 0) := hch
  have HOK : Hid (TkOk t) := hok
  obtain ⟨M, hM⟩ : ∃ x, x = w.heap.size := ⟨_, rfl⟩
  obtain ⟨V, hV⟩ : ∃ V, V = (w.alloc (.cells #[.int .i64 last, .int .i64 next, .slice hA hN hC, .slice bA bN bC, .int .i64 first, .slice gA lN gC, .slice oA oN oC] 61)).alloc (.cells #[.int .i64 0, .int .i64 0, .slice none 0 0, .slice none 0 0, .int .i64 0, .slice none 0 0, .slice none 0 0] 61) := ⟨_, rfl⟩
  have hbV : Below w.heap.size w V := by rw [hV]; exact ((Below.refl _ w).alloc (Nat.le_refl _) _).alloc (by simp) _
  have hMV : Blk V M #[.int .i64 t.last, .int .i64 t.next, hv, bv, .int .i64 t.first, gv, ov] 61 := by
    have := (Blk.new w #[.int .i64 last, .int .i64 next, .slice hA hN hC, .slice bA bN bC, .int .i64 first, .slice gA lN gC, .slice oA oN oC] 61).alloc (.cells #[.int .i64 0, .int .i64 0, .slice none 0 0, .slice none 0 0, .int .i64 0, .slice none 0 0, .slice none 0 0] 61)
    rw [← hV, ← hM, ← eh, ← eb, ← eg, ← eo, hla, hne, hfi] at this
    exact this
  have hZV : Blk V (M + 1) #[.int .i64 0, .int .i64 0, .slice none 0 0, .slice none 0 0, .int .i64 0, .slice none 0 0, .slice none 0 0] 61 := by
    have := Blk.new (w.alloc (.cells #[.int .i64 last, .int .i64 next, .slice hA hN hC, .slice bA bN bC, .int .i64 first, .slice gA lN gC, .slice oA oN oC] 61)) #[.int .i64 0, .int .i64 0, .slice none 0 0, .slice none 0 0, .int .i64 0, .slice none 0 0, .slice none 0 0] 61
    rw [World.size_alloc, ← hV, ← hM] at this
    exact this
  have HMV : Hid (Blk V M #[.int .i64 t.last, .int .i64 t.next, hv, bv, .int .i64 t.first, gv, ov] 61) := hMV
  have HZV : Hid (Blk V (M + 1) #[.int .i64 0, .int .i64 0, .slice none 0 0, .slice none 0 0, .int .i64 0, .slice none 0 0, .slice none 0 0] 61) := hZV
  have HTV : Hid (TrIn (fun g => S g ∧ g ≠ M ∧ g ≠ M + 1) V hv bv gv ov t) := ((hr.mono (S' := fun g => S g ∧ g < M) fun g h hs => ⟨hs, by rw [hM]; exact h⟩).below hbV).mono fun g _ h => ⟨h.1, by have := h.2; omega, by have := h.2; omega⟩
  have HSU : Hid (∀ g, M ≤ g → S g) := fun g hg => hS g (by omega)
  have HVV : Hid (SlsIn (fun g => g ≠ M ∧ g ≠ M + 1) V v l) := ((hsl.mono (S' := fun g => g < M) fun g h _ => by rw [hM]; exact h).below hbV).mono fun g _ h => ⟨by omega, by omega⟩
  have HBV : Hid (Below M w V) := by show Below M w V; rw [hM]; exact hbV
  have hMs : M + 2 ≤ V.heap.size := by have := hZV.lt; omega
  rw [← hR]
  have HW : Hid (M = w.heap.size ∧ V = (w.alloc (.cells #[.int .i64 last, .int .i64 next, .slice hA hN hC, .slice bA bN bC, .int .i64 first, .slice gA lN gC, .slice oA oN oC] 61)).alloc (.cells #[.int .i64 0, .int .i64 0, .slice none 0 0, .slice none 0 0, .int .i64 0, .slice none 0 0, .slice none 0 0] 61)) := ⟨hM, hV⟩
  rw [← hla, ← hne, ← hfi]
  have HMe : Hid (M = w.heap.size) := hM
  have HVAL : Hid (hv = .slice hA hN hC ∧ bv = .slice bA bN bC ∧ gv = .slice gA lN gC ∧ ov = .slice oA oN oC) := ⟨eh, eb, eg, eo⟩
  rw [eh, eb, eg, eo]
  clear hS hbV hMV hZV hR hla hne hfi hhN hbN hlN hoN hM hV hr hsl hch hok eh eb eg eo hn
  subst ev
  go_enter Tryz.func76, Tryz.ntmps76
  go_wp2_with fail
  rw [← HW.out.2, ← HW.out.1]
  clear HW HVAL
  go_loopw [7, 8] (fun c i wr => ∃ (k : Nat) (tk : Tr) (ck : Nat) (ha : Option Addr) (hn hc : Nat) (bo : Option Addr) (bn bc : Nat) (ga : Option Addr) (ln gc : Nat) (oa : Option Addr) (lo oc : Nat), k ≤ n ∧ c = .int .i64 ck ∧ i = .int .i64 k ∧ Hid (Blk wr M #[.int .i64 tk.last, .int .i64 tk.next, .slice ha hn hc, .slice bo bn bc, .int .i64 tk.first, .slice ga ln gc, .slice oa lo oc] 61) ∧ Hid (TrIn (fun g => S g ∧ g ≠ M ∧ g ≠ M + 1) wr (.slice ha hn hc) (.slice bo bn bc) (.slice ga ln gc) (.slice oa lo oc) tk) ∧ Hid (TkOk tk) ∧ Hid (R = tkN (l.drop k) (tk, ck)) ∧ ck ≤ k ∧ Hid (Kept [M] V wr))
    (fun _ i _ => n - (intOf i).toNat)
  case atStart =>
    obtain ⟨hA', hC', bA', bC', gA', gC', oA', oC', eh, eb, eg, eo⟩ := HTV.out.slices
    have h1 := HMV.out
    have h2 := HTV.out
    rw [eh, eb, eg, eo] at h1 h2
    exact ⟨0, t, 0, hA', _, hC', bA', _, bC', gA', _, gC', oA', _, oC', Nat.zero_le _, rfl, rfl, h1, h2, HOK.out, HRR.out, Nat.le_refl _, Kept.refl _ _⟩
  case round =>
    obtain ⟨k, tk, ck, ha, hn, hc, bo, bn, bc, ga, ln, gc, oa, lo, oc, hk, rfl, rfl, HMr, HTr, HO, HR, hck, HK⟩ := hrel
    clear HTV HRR HOK HMV
    by_cases hlt : k < n
    · have hlti : (k : Int) < (n : Int) := by omega
      have hkl : k < l.length := by rw [← HN.out]; exact hlt
      have HVr : Hid (SlsIn (fun g => g ≠ M ∧ g ≠ M + 1) wr (.slice va n vc) l) := HVV.out.keptR HK.out (fun g h => by simp; exact h.1)
      obtain ⟨b, off, e1, hbl, hat⟩ := HVr.out.atR hkl
      obtain ⟨x, hx⟩ : ∃ x, x = l[k]?.getD Sk.zero := ⟨_, rfl⟩
      rw [← hx] at hat
      have HAT : Hid (At7 wr b (off + k * 7) x) := hat
      have hxc : x.chk = 0 := by
        rw [hx, List.getElem?_eq_getElem hkl, Option.getD_some]; exact HCH.out _ (List.getElem_mem _)
      obtain ⟨E, hE⟩ : ∃ e, e = (tk1 tk x).2.2 := ⟨_, rfl⟩
      have HRX : Hid (R = if E = 0 then tkN (l.drop (k + 1)) ((tk1 tk x).1, ck + (tk1 tk x).2.1) else (Tr.zero, 0, E)) := by
        show R = _
        rw [HR.out, tkN_dropR hkl, ← hx, ← hE]
      have HEE : Hid (E = (tk1 tk x).2.2) := hE
      have HO2 : Hid (E = 0 → TkOk (tk1 tk x).1) := fun h => by
        rcases tk1_ok HO.out hxc with ⟨_, h'⟩ | h'
        · exact h'
        · rw [← hE, h] at h'; cases h'
      have hle := tk1_leR tk x
      obtain ⟨B1, hB1⟩ : ∃ E, E = addO tk.o x := ⟨_, rfl⟩
      obtain ⟨T1, hT1⟩ : ∃ E, E = addT tk.o x := ⟨_, rfl⟩
      obtain ⟨K1, hK1⟩ : ∃ E, E = addK tk.o x := ⟨_, rfl⟩
      obtain ⟨P1, hP1⟩ : ∃ E, E = addP tk.o x := ⟨_, rfl⟩
      obtain ⟨W1, hW1⟩ : ∃ E, E = addW tk.o x := ⟨_, rfl⟩
      obtain ⟨nB, hnB⟩ : ∃ n, n = B1.length := ⟨_, rfl⟩
      obtain ⟨nP, hnP⟩ : ∃ n, n = P1.length := ⟨_, rfl⟩
      have HF1 : Hid (W1 = true → (Fr.mk T1 K1 P1).chk = 0) := fun h => by
        rw [hW1] at h
        have := addF_right HO.out.1 hxc h
        rw [hT1, hK1, hP1]; exact this
      have HST : Hid (stchk tk.first tk.L tk.O = 0) := HO.out.2
      have HT0 : Hid (W1 = false → tk1 tk x = (⟨tk.last, tk.next, tk.h, B1, tk.first, tk.L, tk.O⟩, 0, 0)) := fun h => by
        rw [hW1] at h
        unfold tk1; rw [h, ← hB1]; rfl
      have HT1 : Hid (W1 = true → tk1 tk x = (⟨tk.last, tk.next, tk.h, B1, addsF tk.first tk.L tk.O ⟨T1, K1, P1⟩, addsL tk.first tk.L tk.O ⟨T1, K1, P1⟩, addsO tk.first tk.L tk.O ⟨T1, K1, P1⟩⟩, if addsB tk.first tk.L tk.O ⟨T1, K1, P1⟩ then 1 else 0, addsE tk.first tk.L tk.O ⟨T1, K1, P1⟩)) := fun h => by
        rw [hW1] at h
        unfold tk1 addF; rw [h, ← hB1, ← hT1, ← hK1, ← hP1]; rfl
      have HADD : Hid (∀ U : World, Below wr.heap.size wr U → Calls Tryz.prog 120 #[.agg #[.slice bo bn bc], .agg #[.int .i64 x.n, .int .i64 x.p.seq, .int .i64 x.p.time, .bool x.p.f, .bool x.p.e, .bool x.p.k, .string x.p.t]] U fun e w' => ∃ va vc qa qc, e = .returned (.tuple #[.agg #[.slice va nB vc], .agg #[.int .i64 T1, .bool K1, .slice qa nP qc], .bool W1]) ∧ Hid (SlsIn (fun g => U.heap.size ≤ g) w' (.slice va nB vc) B1) ∧ Hid (StrsIn (fun g => U.heap.size ≤ g) w' (.slice qa nP qc) P1) ∧ Below U.heap.size U w') := fun U hU => by
        obtain ⟨o1, o2, o3⟩ := ochk_len HO.out.1
        refine (addOf_any _ tk.o x U (HTr.out.2.1.below hU).1 o1 o3).mono ?_
        rintro e w' ⟨ov', pv', rfl, h1, h2, h3, h4, h5⟩
        rw [← hB1] at h1
        rw [← hP1] at h2
        obtain ⟨va, vc, ev⟩ := h1.len
        obtain ⟨qa, qc, eq⟩ := h2.len
        rw [← hnB] at ev
        rw [← hnP] at eq
        subst ev eq
        rw [← hT1, ← hK1, ← hW1]
        have l1 : B1.length ≤ 3 := by rw [hB1]; exact addO_len _ _ o1
        have l2 : P1.length ≤ 4 := by rw [hP1]; exact addP_len _ _ o1
        exact ⟨va, vc, qa, qc, rfl, SlsIn.of h1 (by omega) (fun g hg _ => (h4 g hg).1), ⟨h2, by omega, fun g hg _ => ⟨(h3 g hg).1, by obtain ⟨_, c, hc⟩ := h3 g hg; exact hc.lt⟩⟩, h5⟩
      subst e1
      have hwrs : M + 2 ≤ wr.heap.size := Nat.le_trans hMs HK.out.size
      clear hx hE hB1 hT1 hK1 hP1 hW1 hnB hnP HR HO hxc hat HVr hkl
      go_upto_region 5 with fail
      refine region_main (by kernel_rfl) (by kernel_rfl) [.quiet (.pointer (some ⟨M, 3, none⟩)), .quiet (.agg #[.slice bo bn bc]), .quiet (.slice (some ⟨b, off, none⟩) n vc), .quiet (.int .i64 k), .quiet (.pointer (some ⟨b, off + k * 7, none⟩)), .quiet (.agg #[.int .i64 x.n, .int .i64 x.p.seq, .int .i64 x.p.time, .bool x.p.f, .bool x.p.e, .bool x.p.k, .string x.p.t]), .main, .fin (fun r => r), .fin (exT 0), .fin (exT 1), .fin (exT 2), .box 59 #[.slice none 0 0], .box 30 #[.int .i64 0, .bool false, .slice none 0 0], .put 11 (fun r => aggC (exT 0 r)), .put 12 (fun r => aggC (exT 1 r)), .fin (exT 2)] 6 (by kernel_rfl)
        (fun S r w' => ∃ va2 vc2 qa qc, r = .tuple #[.agg #[.slice va2 nB vc2], .agg #[.int .i64 T1, .bool K1, .slice qa nP qc], .bool W1] ∧ SlsIn (fun g => S g ∧ wr.heap.size ≤ g) w' (.slice va2 nB vc2) B1 ∧ StrsIn (fun g => S g ∧ wr.heap.size ≤ g) w' (.slice qa nP qc) P1) ?loc ?step ?fin
      case loc =>
        rintro S r w1 w3 ⟨va2, vc2, qa, qc, rfl, h1, h2⟩ hs hsame
        exact ⟨va2, vc2, qa, qc, rfl, h1.to ⟨hs, fun g hg hS => hsame g hS.1 hg⟩ (fun _ _ h => h), h2.to ⟨hs, fun g hg hS => hsame g hS.1 hg⟩ (fun _ _ h => h)⟩
      case step =>
        intro i o ho a' w' r hb hfree hvals
        have f2 : a'.eval (.tmp 2) = .pointer (some ⟨M, 0, none⟩) := (hfree 2 (by kernel_rfl)).trans rfl
        have f1 : a'.eval (.tmp 1) = .slice (some ⟨b, off, none⟩) n vc := (hfree 1 (by kernel_rfl)).trans rfl
        have f8 : a'.eval (.tmp 8) = .int .i64 k := (hfree 8 (by kernel_rfl)).trans rfl
        obtain ⟨y0, y1, y2, y3, y4, y5, y6⟩ := (HMr.out.below hb HMr.out.lt).sevenc
        obtain ⟨j0, j1, j2, j3, j4, j5, j6⟩ := HAT.out.below hb hbl
        match i, ho with
        | 0, ho =>
          simp at ho; subst ho
          show (execOp a'.eval _).run _ w' = .ok (.value _) w'
          generalize a'.eval = ρ at *
          simp [execOp, go_sem, f2]
        | 1, ho =>
          simp at ho; subst ho
          have e22 : a'.eval (.tmp 22) = .pointer (some ⟨M, 3, none⟩) := hvals 0 _ (by kernel_rfl) rfl
          show (execOp a'.eval _).run _ w' = .ok (.value _) w'
          generalize a'.eval = ρ at *
          simp [execOp, go_sem, e22, y3]
        | 2, ho =>
          simp at ho; subst ho
          show (execOp a'.eval _).run _ w' = .ok (.value _) w'
          generalize a'.eval = ρ at *
          simp [execOp, go_sem, f1]
        | 3, ho =>
          simp at ho; subst ho
          show (execOp a'.eval _).run _ w' = .ok (.value _) w'
          generalize a'.eval = ρ at *
          simp [execOp, go_sem, f8]
        | 4, ho =>
          simp at ho; subst ho
          have e24 : a'.eval (.tmp 24) = .slice (some ⟨b, off, none⟩) n vc := hvals 2 _ (by kernel_rfl) rfl
          have e25 : a'.eval (.tmp 25) = .int .i64 k := hvals 3 _ (by kernel_rfl) rfl
          show (execOp a'.eval _).run _ w' = .ok (.value _) w'
          generalize a'.eval = ρ at *
          simp [execOp, go_sem, e24, e25, hlti]
        | 5, ho =>
          simp at ho; subst ho
          have e26 : a'.eval (.tmp 26) = .pointer (some ⟨b, off + k * 7, none⟩) := hvals 4 _ (by kernel_rfl) rfl
          show (execOp a'.eval _).run _ w' = .ok (.value _) w'
          generalize a'.eval = ρ at *
          simp [execOp, go_sem, e26, j0, j1, j2, j3, j4, j5, j6]
        | 6, ho =>
          simp at ho; subst ho
          have e23 : a'.eval (.tmp 23) = .agg #[.slice bo bn bc] := hvals 1 _ (by kernel_rfl) rfl
          have e27 : a'.eval (.tmp 27) = .agg #[.int .i64 x.n, .int .i64 x.p.seq, .int .i64 x.p.time, .bool x.p.f, .bool x.p.e, .bool x.p.k, .string x.p.t] := hvals 5 _ (by kernel_rfl) rfl
          have ef : a'.eval (.func 120) = .func (.func 120) #[] #[] := rfl
          show ∃ f args, (execOp a'.eval _).run _ w' = .ok (.enter f args) w' ∧ _
          generalize a'.eval = ρ at *
          refine ⟨120, #[.agg #[.slice bo bn bc], .agg #[.int .i64 x.n, .int .i64 x.p.seq, .int .i64 x.p.time, .bool x.p.f, .bool x.p.e, .bool x.p.k, .string x.p.t]], by simp [execOp, go_sem, e23, e27, ef], ?_⟩
          refine (HADD.out w' hb).mono ?_
          rintro e w'' ⟨va2, vc2, qa, qc, rfl, h1, h2, hb4⟩
          exact ⟨_, rfl, ⟨va2, vc2, qa, qc, rfl, h1.out.mono (fun g hl hg => ⟨⟨hl, .inr hg⟩, (by have := hb.size; omega)⟩), h2.out.mono (fun g hl hg => ⟨⟨hl, .inr hg⟩, (by have := hb.size; omega)⟩)⟩, hb4⟩
        | 7, ho =>
          simp at ho; subst ho
          have e28 : a'.eval (.tmp 28) = r := hvals 6 _ (by kernel_rfl) rfl
          show ∀ S, _ → (execOp a'.eval _).run _ w' = .ok (.value _) w'
          rintro S ⟨va2, vc2, qa, qc, rfl, _, _⟩
          try simp only [exT] at e28
          generalize a'.eval = ρ at *
          simp [execOp, go_sem, e28]
        | 8, ho =>
          simp at ho; subst ho
          have e21 : a'.eval (.tmp 21) = r := hvals 7 _ (by kernel_rfl) rfl
          show ∀ S, _ → (execOp a'.eval _).run _ w' = .ok (.value _) w'
          rintro S ⟨va2, vc2, qa, qc, rfl, _, _⟩
          try simp only [exT] at e21
          generalize a'.eval = ρ at *
          simp [execOp, go_sem, e21, exT]
        | 9, ho =>
          simp at ho; subst ho
          have e21 : a'.eval (.tmp 21) = r := hvals 7 _ (by kernel_rfl) rfl
          show ∀ S, _ → (execOp a'.eval _).run _ w' = .ok (.value _) w'
          rintro S ⟨va2, vc2, qa, qc, rfl, _, _⟩
          try simp only [exT] at e21
          generalize a'.eval = ρ at *
          simp [execOp, go_sem, e21, exT]
        | 10, ho =>
          simp at ho; subst ho
          have e21 : a'.eval (.tmp 21) = r := hvals 7 _ (by kernel_rfl) rfl
          show ∀ S, _ → (execOp a'.eval _).run _ w' = .ok (.value _) w'
          rintro S ⟨va2, vc2, qa, qc, rfl, _, _⟩
          try simp only [exT] at e21
          generalize a'.eval = ρ at *
          simp [execOp, go_sem, e21, exT]
        | 11, ho =>
          simp at ho; subst ho
          show (execOp a'.eval _).run _ w' = .ok (.value _) _
          generalize a'.eval = ρ at *
          simp [execOp, go_sem]
        | 12, ho =>
          simp at ho; subst ho
          show (execOp a'.eval _).run _ w' = .ok (.value _) _
          generalize a'.eval = ρ at *
          simp [execOp, go_sem]
        | 13, ho =>
          simp at ho; subst ho
          have e29 : a'.eval (.tmp 29) = (exT 0) r := hvals 8 _ (by kernel_rfl) rfl
          show ∀ S, _ → ∀ t z g C, _ → _ → _ → _ → ∃ w'', (execOp a'.eval _).run _ w' = .ok .skip w'' ∧ _
          rintro S ⟨va2, vc2, qa, qc, rfl, _, _⟩ t z g C hz hC hs (eb : a'.eval (.tmp 9) = _)
          cases hz
          obtain ⟨u0, q0⟩ := cells1 hC hs
          have p0 := hC.free 0
          obtain ⟨m1, m2, m3⟩ := set1 hC hs (.slice va2 nB vc2)
          simp only [exT] at e29
          generalize a'.eval = ρ at *
          exact ⟨_, by simp [execOp, go_sem, e29, eb, q0, p0], m1, m2, rfl, m3, rfl, rfl, rfl⟩
        | 14, ho =>
          simp at ho; subst ho
          have e30 : a'.eval (.tmp 30) = (exT 1) r := hvals 9 _ (by kernel_rfl) rfl
          show ∀ S, _ → ∀ t z g C, _ → _ → _ → _ → ∃ w'', (execOp a'.eval _).run _ w' = .ok .skip w'' ∧ _
          rintro S ⟨va2, vc2, qa, qc, rfl, _, _⟩ t z g C hz hC hs (eb : a'.eval (.tmp 10) = _)
          cases hz
          obtain ⟨u0, u1, u2, q0, q1, q2⟩ := cells3 hC hs
          have p0 := hC.free 0
          have p1 := hC.free 1
          have p2 := hC.free 2
          obtain ⟨m1, m2, m3⟩ := set3 hC hs (.int .i64 T1) (.bool K1) (.slice qa nP qc)
          simp only [exT] at e30
          generalize a'.eval = ρ at *
          exact ⟨_, by simp [execOp, go_sem, e30, eb, q0, q1, q2, p0, p1, p2], m1, m2, rfl, m3, rfl, rfl, rfl⟩
        | 15, ho =>
          simp at ho; subst ho
          have e31 : a'.eval (.tmp 31) = (exT 2) r := hvals 10 _ (by kernel_rfl) rfl
          show ∀ S, _ → (execOp a'.eval _).run _ w' = .ok (.value _) w'
          rintro S ⟨va2, vc2, qa, qc, rfl, _, _⟩
          try simp only [exT] at e31
          generalize a'.eval = ρ at *
          simp [execOp, go_sem, e31, exT]
        | i + 16, ho => simp at ho
      case fin =>
        rintro r gs Sr W hb ⟨va2, vc2, qa, qc, rfl, h1, h2⟩ hS hbox hap
        obtain ⟨p1, p2, C, p3, p4⟩ := hbox 11 _ _ (by decide) rfl
        have p5 := p4 13 _ (by decide) rfl
        subst p5
        obtain ⟨o1, o2, C', o3, o4⟩ := hbox 12 _ _ (by decide) rfl
        have o5 := o4 14 _ (by decide) rfl
        subst o5
        have KP : Hid (Blk W (gs 11) #[.slice va2 nB vc2] 59) := p3
        have KO : Hid (Blk W (gs 12) #[.int .i64 T1, .bool K1, .slice qa nP qc] 30) := o3
        simp only [putK, Kd.out, exT, Act.put, List.setIfInBounds_toArray, List.set_cons_succ, List.set_cons_zero, List.getElem?_toArray, List.getElem?_cons_zero, List.getElem?_cons_succ, Option.getD_some]
        obtain ⟨p, hp⟩ : ∃ p, p = gs 11 := ⟨_, rfl⟩
        obtain ⟨q, hq⟩ : ∃ p, p = gs 12 := ⟨_, rfl⟩
        rw [← hp] at KP p1
        rw [← hq] at KO o1
        rw [← hp, ← hq]
        have HBW : Hid (Below wr.heap.size wr W) := hb
        have H1 : Hid (SlsIn (fun g => wr.heap.size ≤ g) W (.slice va2 nB vc2) B1) := h1.mono fun _ _ h => h.2
        have H2 : Hid (StrsIn (fun g => wr.heap.size ≤ g) W (.slice qa nP qc) P1) := h2.mono fun _ _ h => h.2
        clear hp hq h1 h2 hS hbox hap p2 p3 p4 o2 o3 o4 hb HADD HAT hbl
        have HMW : Hid (Blk W M #[.int .i64 tk.last, .int .i64 tk.next, .slice ha hn hc, .slice bo bn bc, .int .i64 tk.first, .slice ga ln gc, .slice oa lo oc] 61) := HMr.out.below HBW.out HMr.out.lt
        have HRW : Hid (TrIn (fun g => S g ∧ g ≠ M ∧ g ≠ M + 1) W (.slice ha hn hc) (.slice bo bn bc) (.slice ga ln gc) (.slice oa lo oc) tk) := HTr.out.below HBW.out
        have HKW : Hid (Kept [M] V W) := HK.out.below HBW.out
        clear HMr HTr HK
        have x0 := KP.out.one
        obtain ⟨y0, y1, y2, y3, y4, y5, y6⟩ := HMW.out.sevenc
        have fM := HMW.out.free
        have lM := HMW.out.lt
        have hpM : ¬ p = M := by omega
        have hqM : ¬ q = M := by omega
        obtain ⟨W2, hW2⟩ : ∃ V, V = W.setCell ⟨M, 3, none⟩ (.slice va2 nB vc2) := ⟨_, rfl⟩
        have hKs : Kept [M] W W2 := by rw [hW2]; exact (Kept.refl _ _).setCell (p := ⟨M, 3, none⟩) (by simp) _
        have HMV : Hid (Blk W2 M #[.int .i64 tk.last, .int .i64 tk.next, .slice ha hn hc, .slice va2 nB vc2, .int .i64 tk.first, .slice ga ln gc, .slice oa lo oc] 61) := by
          have := HMW.out.set 3 (.slice va2 nB vc2)
          rw [hW2]; simpa [Hid] using this
        have KOV : Hid (Blk W2 q #[.int .i64 T1, .bool K1, .slice qa nP qc] 30) := KO.out.kept hKs (by simp; exact hqM)
        have HTV : Hid (TrIn (fun g => S g ∧ g ≠ M ∧ g ≠ M + 1) W2 (.slice ha hn hc) (.slice va2 nB vc2) (.slice ga ln gc) (.slice oa lo oc) ⟨tk.last, tk.next, tk.h, B1, tk.first, tk.L, tk.O⟩) := by
          have so : SameOn (fun g => S g ∧ g ≠ M ∧ g ≠ M + 1) W W2 := hKs.sameTo (fun g h => by simp; exact h.2.1)
          have so2 : SameOn (fun g => wr.heap.size ≤ g) W W2 := hKs.sameTo (fun g h => by simp; omega)
          exact ⟨HRW.out.1.to so (fun _ _ h => h), H1.out.to so2 (fun g _ h => ⟨HSU.out g (by omega), by omega, by omega⟩), HRW.out.2.2.1.to so (fun _ _ h => h), HRW.out.2.2.2.to so (fun _ _ h => h)⟩
        have HPN : Hid (∀ U, Below W2.heap.size W2 U → StrsIn (fun g => S g ∧ g ≠ M ∧ g ≠ M + 1) U (.slice qa nP qc) P1) := fun U hU => ((H2.out.to (hKs.sameTo (X := fun g => wr.heap.size ≤ g) (fun g h => by simp; omega)) (fun g _ h => (⟨HSU.out g (by omega), by omega, by omega⟩ : S g ∧ g ≠ M ∧ g ≠ M + 1)))).below hU
        have HPV : Hid (StrsIn (fun _ => True) W2 (.slice qa nP qc) P1) := H2.out.to (hKs.sameTo (X := fun g => wr.heap.size ≤ g) (fun g h => by simp; omega)) (fun _ _ _ => trivial)
        have HKV : Hid (Kept [M] V W2) := HKW.out.trans hKs
        have hs2 : wr.heap.size ≤ W2.heap.size := Nat.le_trans HBW.out.size hKs.size
        clear hKs HRW H1 H2 KO HMW HKW HBW
        cases W1
        case false =>
          have HH1 : Hid (tk1 tk x = (⟨tk.last, tk.next, tk.h, B1, tk.first, tk.L, tk.O⟩, 0, 0)) := HT0.out rfl
          have HRX' : Hid (R = tkN (l.drop (k + 1)) ((⟨tk.last, tk.next, tk.h, B1, tk.first, tk.L, tk.O⟩, ck))) := by
            have h := HRX.out
            rcases Int.decEq E 0 with hE | hE
            · exfalso
              rw [if_neg hE] at h
              have := HEE.out
              rw [HH1.out] at this
              exact hE this
            · rw [if_pos hE, HH1.out] at h; exact h
          have HO3 : Hid (TkOk ⟨tk.last, tk.next, tk.h, B1, tk.first, tk.L, tk.O⟩) := by
            have h := HO2.out (by have := HEE.out; rw [HH1.out] at this; exact this)
            rw [HH1.out] at h
            exact h
          clear HRX HO2 HT0 HT1 HF1 HST HH1 HEE hle
          go_wp2_with fail
          rw [← hW2]
          clear hW2 x0 y0 y1 y2 y3 y4 y5 y6 fM lM
          go_roundw
          case rel => exact ⟨k + 1, ⟨tk.last, tk.next, tk.h, B1, tk.first, tk.L, tk.O⟩, ck, ha, hn, hc, va2, nB, vc2, ga, ln, gc, oa, lo, oc, by omega, rfl, by go_num, HMV.out, HTV.out, HO3.out, HRX'.out, by omega, HKV.out⟩
          case measure => simp [intOf]; omega
        case true =>
          have HH1 := HT1.out rfl
          obtain ⟨F2, hF2⟩ : ∃ E, E = addsF tk.first tk.L tk.O ⟨T1, K1, P1⟩ := ⟨_, rfl⟩
          obtain ⟨L2, hL2⟩ : ∃ E, E = addsL tk.first tk.L tk.O ⟨T1, K1, P1⟩ := ⟨_, rfl⟩
          obtain ⟨O2, hO2⟩ : ∃ E, E = addsO tk.first tk.L tk.O ⟨T1, K1, P1⟩ := ⟨_, rfl⟩
          obtain ⟨B2, hB2⟩ : ∃ E, E = addsB tk.first tk.L tk.O ⟨T1, K1, P1⟩ := ⟨_, rfl⟩
          obtain ⟨E2, hE2⟩ : ∃ E, E = addsE tk.first tk.L tk.O ⟨T1, K1, P1⟩ := ⟨_, rfl⟩
          obtain ⟨nL, hnL⟩ : ∃ n, n = L2.length := ⟨_, rfl⟩
          obtain ⟨nO, hnO⟩ : ∃ n, n = O2.length := ⟨_, rfl⟩
          have HSA : Hid (∀ U : World, Below W2.heap.size W2 U → Calls Tryz.prog 13 #[.agg #[.int .i64 tk.first, .slice ga ln gc, .slice oa lo oc], .agg #[.int .i64 T1, .bool K1, .slice qa nP qc]] U fun e w' => ∃ a1 c1 a2 c2, e = .returned (.tuple #[.agg #[.int .i64 F2, .slice a1 nL c1, .slice a2 nO c2], .bool B2, .int .i64 E2]) ∧ Hid (GrsIn (fun g => S g ∧ g ≠ M ∧ g ≠ M + 1) w' (.slice a1 nL c1) L2) ∧ Hid (FrsIn (fun g => S g ∧ g ≠ M ∧ g ≠ M + 1) w' (.slice a2 nO c2) O2) ∧ Below U.heap.size U w') := fun U hU => by
            have hUs := hU.size
            refine (refStoreAdd_in (fun g => S g ∧ g ≠ M ∧ g ≠ M + 1) tk.first _ _ _ tk.L tk.O ⟨T1, K1, P1⟩ U (HTV.out.2.2.1.below hU) (HTV.out.2.2.2.below hU) (HPN.out U hU) HST.out (HF1.out rfl)).mono ?_
            rintro e w' ⟨gv', ov', rfl, h1, h2, h3⟩
            rw [← hL2] at h1
            rw [← hO2] at h2
            obtain ⟨a1, c1, e1, _⟩ := h1.len
            obtain ⟨a2, c2, e2, _⟩ := h2.len
            rw [← hnL] at e1
            rw [← hnO] at e2
            subst e1 e2
            rw [← hF2, ← hB2, ← hE2]
            exact ⟨a1, c1, a2, c2, rfl, h1.mono (fun g _ h => by
              rcases h with h | h
              · exact h
              · exact ⟨HSU.out g (by omega), by omega, by omega⟩), h2.mono (fun g _ h => by
              rcases h with h | h
              · exact h
              · exact ⟨HSU.out g (by omega), by omega, by omega⟩), h3⟩
          rw [← hF2, ← hL2, ← hO2, ← hB2, ← hE2] at HH1
          have HH : Hid (tk1 tk x = (⟨tk.last, tk.next, tk.h, B1, F2, L2, O2⟩, if B2 then 1 else 0, E2)) := HH1
          have e2 : E2 = E := by have := HEE.out; rw [HH1] at this; exact this.symm
          subst e2
          have HBB : Hid (B2 = addsB tk.first tk.L tk.O ⟨T1, K1, P1⟩) := hB2
          clear hF2 hL2 hO2 hB2 hE2 hnL hnO HH1 HT0 HT1 HF1 HST HPV HEE HPN
          go_upto_region 8 with fail
          rw [← hW2]
          clear hW2 x0 y0 y1 y2 y3 y4 y5 y6 fM lM
          obtain ⟨y0, y1, y2, y3, y4, y5, y6⟩ := HMV.out.sevenc
          obtain ⟨f0, f1, f2⟩ := KOV.out.three
          go_wp2_with fail
          refine (HSA.out W2 (Below.refl _ _)).mono ?_
          rintro e w5 ⟨a1, c1, a2, c2, rfl, G1, G2, c5⟩
          have HM5 : Hid (Blk w5 M #[.int .i64 tk.last, .int .i64 tk.next, .slice ha hn hc, .slice va2 nB vc2, .int .i64 tk.first, .slice ga ln gc, .slice oa lo oc] 61) := HMV.out.below c5 HMV.out.lt
          have HK5 : Hid (Kept [M] V w5) := HKV.out.below c5
          have HT5 := HTV.out.below c5
          clear y0 y1 y2 y3 y4 y5 y6 f0 f1 f2 HMV HKV KOV HSA
          obtain ⟨W6, hW6⟩ : ∃ W, W = w5.alloc (.cells #[.int .i64 F2, .slice a1 nL c1, .slice a2 nO c2] 27) := ⟨_, rfl⟩
          have b6 : Below w5.heap.size w5 W6 := by rw [hW6]; exact (Below.refl _ _).alloc (Nat.le_refl _) _
          have HM6 : Hid (Blk W6 M #[.int .i64 tk.last, .int .i64 tk.next, .slice ha hn hc, .slice va2 nB vc2, .int .i64 tk.first, .slice ga ln gc, .slice oa lo oc] 61) := HM5.out.below b6 HM5.out.lt
          have HX6 : Hid (Blk W6 w5.heap.size #[.int .i64 F2, .slice a1 nL c1, .slice a2 nO c2] 27) := Blk.newE hW6
          have HK6 : Hid (Kept [M] V W6) := HK5.out.below b6
          have HT6 : Hid (TrIn (fun g => S g ∧ g ≠ M ∧ g ≠ M + 1) W6 (.slice ha hn hc) (.slice va2 nB vc2) (.slice a1 nL c1) (.slice a2 nO c2) ⟨tk.last, tk.next, tk.h, B1, F2, L2, O2⟩) := ⟨HT5.1.below b6, HT5.2.1.below b6, G1.out.below b6, G2.out.below b6⟩
          have hM5 := HM5.out.lt
          clear b6 HM5 HK5 HT5 G1 G2
          by_cases hE0 : E2 = 0
          · have HRX' : Hid (R = tkN (l.drop (k + 1)) (⟨tk.last, tk.next, tk.h, B1, F2, L2, O2⟩, ck + (if B2 then 1 else 0))) := by
              have h := HRX.out
              rw [if_pos hE0, HH.out] at h; exact h
            have HO3 : Hid (TkOk ⟨tk.last, tk.next, tk.h, B1, F2, L2, O2⟩) := by
              have h := HO2.out hE0
              rw [HH.out] at h; exact h
            clear HRX HO2 HH hle
            subst hE0
            obtain ⟨y0, y1, y2, y3, y4, y5, y6⟩ := HM6.out.sevenc
            have fM := HM6.out.free
            have lM := HM6.out.lt
            obtain ⟨s0, s1, s2⟩ := HX6.out.three
            obtain ⟨W7, hW7⟩ : ∃ W, W = ((W6.setCell ⟨M, 4, none⟩ (.int .i64 F2)).setCell ⟨M, 5, none⟩ (.slice a1 nL c1)).setCell ⟨M, 6, none⟩ (.slice a2 nO c2) := ⟨_, rfl⟩
            have hK7 : Kept [M] W6 W7 := by rw [hW7]; exact (((Kept.refl _ _).setCell (p := ⟨M, 4, none⟩) (by simp) _).setCell (p := ⟨M, 5, none⟩) (by simp) _).setCell (p := ⟨M, 6, none⟩) (by simp) _
            have HM7 : Hid (Blk W7 M #[.int .i64 tk.last, .int .i64 tk.next, .slice ha hn hc, .slice va2 nB vc2, .int .i64 F2, .slice a1 nL c1, .slice a2 nO c2] 61) := by
              have := ((HM6.out.set 4 (.int .i64 F2)).set 5 (.slice a1 nL c1)).set 6 (.slice a2 nO c2)
              rw [hW7]; simpa [Hid] using this
            have HT7 : Hid (TrIn (fun g => S g ∧ g ≠ M ∧ g ≠ M + 1) W7 (.slice ha hn hc) (.slice va2 nB vc2) (.slice a1 nL c1) (.slice a2 nO c2) ⟨tk.last, tk.next, tk.h, B1, F2, L2, O2⟩) := HT6.out.to (hK7.sameTo (fun g h => by simp; exact h.2.1)) (fun _ _ h => h)
            have HK7 : Hid (Kept [M] V W7) := HK6.out.trans hK7
            clear hK7 HM6 HK6 HT6
            have hck1 : IntKind.i64.wrap ((ck : Int) + 1) = (ck : Int) + 1 := by rw [IntKind.wrap_i64]; omega
            go_upto_region 9 with fail
            rw [← hW6]
            clear hW6
            go_upto_region 12 with fail
            rw [← hW7]
            clear hW7 y0 y1 y2 y3 y4 y5 y6 fM lM s0 s1 s2
            cases B2
            · go_wp2_with fail
              go_roundw
              case rel => exact ⟨k + 1, ⟨tk.last, tk.next, tk.h, B1, F2, L2, O2⟩, ck, ha, hn, hc, va2, nB, vc2, a1, nL, c1, a2, nO, c2, by omega, rfl, by go_num, HM7.out, HT7.out, HO3.out, HRX'.out, by omega, HK7.out⟩
              case measure => simp [intOf]; omega
            · go_wp2_with fail
              go_roundw
              case rel => exact ⟨k + 1, ⟨tk.last, tk.next, tk.h, B1, F2, L2, O2⟩, ck + 1, ha, hn, hc, va2, nB, vc2, a1, nL, c1, a2, nO, c2, by omega, by go_num, by go_num, HM7.out, HT7.out, HO3.out, HRX'.out, by omega, HK7.out⟩
              case measure => simp [intOf]; omega
          · have HRX' : Hid (R = (Tr.zero, 0, E2)) := by
              have h := HRX.out
              rw [if_neg hE0] at h; exact h
            have HZ6 : Hid (Blk W6 (M + 1) #[.int .i64 0, .int .i64 0, .slice none 0 0, .slice none 0 0, .int .i64 0, .slice none 0 0, .slice none 0 0] 61) := HZV.out.kept HK6.out (by simp)
            have HB6 : Hid (Below M V W6) := HK6.out.toBelow (by omega) (by simp)
            clear HRX HO2 HH hle HM6 HT6 HK6 HX6
            obtain ⟨y0, y1, y2, y3, y4, y5, y6⟩ := HZ6.out.sevenc
            have fM := HZ6.out.free
            have lM := HZ6.out.lt
            obtain ⟨W7, hW7⟩ : ∃ W, W = ((((((W6.setCell ⟨M + 1, 0, none⟩ (.int .i64 0)).setCell ⟨M + 1, 1, none⟩ (.int .i64 0)).setCell ⟨M + 1, 2, none⟩ (.slice none 0 0)).setCell ⟨M + 1, 3, none⟩ (.slice none 0 0)).setCell ⟨M + 1, 4, none⟩ (.int .i64 0)).setCell ⟨M + 1, 5, none⟩ (.slice none 0 0)).setCell ⟨M + 1, 6, none⟩ (.slice none 0 0) := ⟨_, rfl⟩
            have HZ7 : Hid (Blk W7 (M + 1) #[.int .i64 0, .int .i64 0, .slice none 0 0, .slice none 0 0, .int .i64 0, .slice none 0 0, .slice none 0 0] 61) := by
              have := ((((((HZ6.out.set 0 (.int .i64 0)).set 1 (.int .i64 0)).set 2 (.slice none 0 0)).set 3 (.slice none 0 0)).set 4 (.int .i64 0)).set 5 (.slice none 0 0)).set 6 (.slice none 0 0)
              rw [hW7]; simpa [Hid] using this
            have HB7 : Hid (Below M w W7) := by
              show Below _ _ _
              rw [hW7]
              exact seven_belowR (HBV.out.trans HB6.out) (by omega) _ _ _ _ _ _ _
            clear HZ6 HB6
            go_upto_region 10 with fail
            rw [← hW6]
            clear hW6
            go_wp2
            rw [← hW7]
            clear hW7 y0 y1 y2 y3 y4 y5 y6 fM lM
            obtain ⟨y0, y1, y2, y3, y4, y5, y6⟩ := HZ7.out.sevenc
            refine bodyPost_ret (v := .tuple #[.agg #[.int .i64 0, .int .i64 0, .slice none 0 0, .slice none 0 0, .int .i64 0, .slice none 0 0, .slice none 0 0], .int .i64 0, .int .i64 E2]) (by simp [results, Tryz.results76, go_sem, y0, y1, y2, y3, y4, y5, y6]) rfl ?_
            rw [HRX'.out]
            exact ⟨_, _, _, _, rfl, TrIn.zero _ _, by have := HB7.out; rw [HMe.out] at this; exact this⟩
    · have hkn : k = n := by omega
      subst hkn
      have HRX' : Hid (R = (tk, ck, 0)) := by
        show R = _
        rw [HR.out, HN.out, List.drop_length]; rfl
      have HZ6 : Hid (Blk wr (M + 1) #[.int .i64 0, .int .i64 0, .slice none 0 0, .slice none 0 0, .int .i64 0, .slice none 0 0, .slice none 0 0] 61) := HZV.out.kept HK.out (by simp)
      have HB6 : Hid (Below M V wr) := HK.out.toBelow (by omega) (by simp)
      clear HR HO HK
      obtain ⟨y0, y1, y2, y3, y4, y5, y6⟩ := HMr.out.sevenc
      obtain ⟨z0, z1, z2, z3, z4, z5, z6⟩ := HZ6.out.sevenc
      have fM := HZ6.out.free
      have lM := HZ6.out.lt
      obtain ⟨W7, hW7⟩ : ∃ W, W = ((((((wr.setCell ⟨M + 1, 0, none⟩ (.int .i64 tk.last)).setCell ⟨M + 1, 1, none⟩ (.int .i64 tk.next)).setCell ⟨M + 1, 2, none⟩ (.slice ha hn hc)).setCell ⟨M + 1, 3, none⟩ (.slice bo bn bc)).setCell ⟨M + 1, 4, none⟩ (.int .i64 tk.first)).setCell ⟨M + 1, 5, none⟩ (.slice ga ln gc)).setCell ⟨M + 1, 6, none⟩ (.slice oa lo oc) := ⟨_, rfl⟩
      have HZ7 : Hid (Blk W7 (M + 1) #[.int .i64 tk.last, .int .i64 tk.next, .slice ha hn hc, .slice bo bn bc, .int .i64 tk.first, .slice ga ln gc, .slice oa lo oc] 61) := by
        have := ((((((HZ6.out.set 0 (.int .i64 tk.last)).set 1 (.int .i64 tk.next)).set 2 (.slice ha hn hc)).set 3 (.slice bo bn bc)).set 4 (.int .i64 tk.first)).set 5 (.slice ga ln gc)).set 6 (.slice oa lo oc)
        rw [hW7]; simpa [Hid] using this
      have HB7 : Hid (Below M w W7) := by
        show Below _ _ _
        rw [hW7]
        exact seven_belowR (HBV.out.trans HB6.out) (by omega) _ _ _ _ _ _ _
      have hk7 : Kept [M + 1] wr W7 := by
        rw [hW7]
        exact (((((((Kept.refl [M + 1] wr).setCell (p := ⟨M + 1, 0, none⟩) (by simp) _).setCell (p := ⟨M + 1, 1, none⟩) (by simp) _).setCell (p := ⟨M + 1, 2, none⟩) (by simp) _).setCell (p := ⟨M + 1, 3, none⟩) (by simp) _).setCell (p := ⟨M + 1, 4, none⟩) (by simp) _).setCell (p := ⟨M + 1, 5, none⟩) (by simp) _).setCell (p := ⟨M + 1, 6, none⟩) (by simp) _
      have HT7 : Hid (TrIn S W7 (.slice ha hn hc) (.slice bo bn bc) (.slice ga ln gc) (.slice oa lo oc) tk) := HTr.out.to (hk7.sameTo (fun g h => by simp; exact h.2.2)) (fun _ _ h => h.1)
      clear HZ6 HB6 HTr HMr hk7
      go_wp2
      rw [← hW7]
      clear hW7 y0 y1 y2 y3 y4 y5 y6 z0 z1 z2 z3 z4 z5 z6 fM lM
      obtain ⟨y0, y1, y2, y3, y4, y5, y6⟩ := HZ7.out.sevenc
      refine bodyPost_ret (v := .tuple #[.agg #[.int .i64 tk.last, .int .i64 tk.next, .slice ha hn hc, .slice bo bn bc, .int .i64 tk.first, .slice ga ln gc, .slice oa lo oc], .int .i64 ck, .int .i64 0]) (by simp [results, Tryz.results76, go_sem, y0, y1, y2, y3, y4, y5, y6]) rfl ?_
      rw [HRX'.out]
      exact ⟨_, _, _, _, rfl, HT7.out, by have := HB7.out; rw [HMe.out] at this; exact this⟩

end Go.Proofs.YtnpaejknoipicafGreat

namespace Go.Proofs.YtnpaejknoipicafGreat
open Go.RowKit

theorem Sls.blk {w : World} {v : Value} {l : List Sk} (h : Sls w v l) : 0 < l.length → ∀ g, v.ownBlock = some g → g < w.heap.size := by
  intro h0 g hg
  obtain ⟨_, ⟨hl, _⟩ | ⟨b, off, c, rfl, hb, _⟩⟩ := h
  · omega
  · simp only [Value.ownBlock, Option.some.injEq] at hg; omega
theorem relF_len (most : Nat) : ∀ (h : List Sk) (next : Int) (o : List Sk), (relF most next h o).2.1.length ≤ h.length
  | [], _, _ => Nat.le_refl _
  | x :: r, next, o => by
    unfold relF
    split
    · have := relF_len most r (next + 1) (o ++ [x]); simp; omega
    · split
      · exact Nat.le_refl _
      · have := relF_len most r (x.n + 1) (o ++ [x]); simp; omega

set_option maxHeartbeats 1000000 in
theorem flushOf_any (next : Int) (v : Value) (l : List Sk) (w : World) (hv : Sls w v l) (hcap : ∀ a n c, v = .slice a n c → n ≤ c) (hnums : Nums l) (hn0 : 0 ≤ next ∧ next ≤ 1000000001) (hlen : l.length ≤ 50) :
    Calls Tryz.prog 77 #[.agg #[.int .i64 next, v]] w fun e w' => ∃ hv' ov', e = .returned (.tuple #[.agg #[.int .i64 (relF 0 next l []).1, hv'], ov']) ∧
      Sls w' hv' (relF 0 next l []).2.1 ∧ Sls w' ov' (relF 0 next l []).2.2 ∧ Below w.heap.size w w' ∧ (0 < (relF 0 next l []).2.1.length → ∀ g, hv'.ownBlock = some g → v.ownBlock = some g ∨ w.heap.size ≤ g) ∧ (∀ g, ov'.ownBlock = some g → w.heap.size ≤ g) := by
  obtain ⟨a, c, hva⟩ := hv.len
  have hrel := released_any 0 next v l ((w.alloc (.cells #[.int .i64 next, v] 57)).alloc (.cells #[.int .i64 0, .slice none 0 0] 57)) ((hv.alloc _).alloc _) hcap hnums hn0 hlen
  have HLT : Hid (0 < l.length → ∀ g, v.ownBlock = some g → g < w.heap.size) := hv.blk
  have HRL : Hid ((relF 0 next l []).2.1.length ≤ l.length) := relF_len 0 l next []
  obtain ⟨n, hn⟩ : ∃ n, n = l.length := ⟨_, rfl⟩
  rw [← hn] at hva
  obtain ⟨R, hR⟩ : ∃ R, R = relF 0 next l [] := ⟨_, rfl⟩
  rw [← hR] at hrel HRL ⊢
  clear hR hn hv hcap
  subst hva
  go_enter Tryz.func77, Tryz.ntmps77
  go_wp2_with fail
  refine hrel.mono ?_
  rintro e w1 ⟨hv', ov', rfl, s1, s2, hb1, f1, f2⟩
  obtain ⟨kb, kr, bb, hs1⟩ := blocks2 hb1
  obtain ⟨r0, r1⟩ := kr.two
  have rf := kr.free
  obtain ⟨a1, c1, e1⟩ := s1.len
  obtain ⟨a2, c2, e2⟩ := s2.len
  subst e1 e2
  have HF : Hid (∀ w3 : World, Hid (w3 = (w1.setCell ⟨w.heap.size + 1, 0, none⟩ (.int .i64 R.1)).setCell ⟨w.heap.size + 1, 1, none⟩ (.slice a1 R.2.1.length c1)) → Sls w3 (.slice a1 R.2.1.length c1) R.2.1 ∧ Sls w3 (.slice a2 R.2.2.length c2) R.2.2 ∧ Below w.heap.size w w3 ∧ (0 < R.2.1.length → ∀ g, (Value.slice a1 R.2.1.length c1).ownBlock = some g → (Value.slice a n c).ownBlock = some g ∨ w.heap.size ≤ g) ∧ (∀ g, (Value.slice a2 R.2.2.length c2).ownBlock = some g → w.heap.size ≤ g)) := fun w3 hw3 => by
    have hblk : ∀ j, j ≠ w.heap.size + 1 → w3.heap[j]? = w1.heap[j]? := fun j hj => by rw [hw3.out, Below.heap_setCell _ _ _ _ (by exact hj), Below.heap_setCell _ _ _ _ (by exact hj)]
    have hs3 : w3.heap.size = w1.heap.size := by rw [hw3.out]; simp
    refine ⟨s1.same (by omega) (fun h0 g hg => hblk g ?_), s2.same (by omega) (fun _ g hg => hblk g (by have := f2 g hg; simp at this; omega)), ?_⟩
    · rcases f1 h0 g hg with h | h
      · have := HLT.out (by have := HRL.out; omega) g h
        omega
      · simp at h; omega
    · refine ⟨by rw [hw3.out]; exact (bb.setCell (by simp) _).setCell (by simp) _, fun h0 g hg => ?_, fun g hg => by have := f2 g hg; simp at this; omega⟩
      rcases f1 h0 g hg with h | h
      · exact .inl h
      · right; simp at h; omega
  clear hb1 kb kr bb f1 f2 s1 s2 hrel
  go_wp2
  exact bodyPost_ret (v := .tuple #[.agg #[.int .i64 R.1, .slice a1 R.2.1.length c1], .slice a2 R.2.2.length c2]) (by simp [results, Tryz.results77, go_sem, r0, r1]) rfl ⟨_, _, rfl, HF.out _ rfl⟩

end Go.Proofs.YtnpaejknoipicafGreat

namespace Go.Proofs.YtnpaejknoipicafGreat
open Go.RowKit

theorem own_set {w : World} {base : Nat} {e : TypeId} {size g n cap j : Nat} {xs : List Value} (h : w.ownsRow base e size (.slice (some ⟨g, 0, none⟩) n cap) n xs) (u : Value) :
    (w.setCell ⟨g, j, none⟩ u).ownsRow base e size (.slice (some ⟨g, 0, none⟩) n cap) n (xs.set j u) := by
  obtain ⟨hl, ⟨h1, _⟩ | ⟨g', cap', cur, h1, hb, hh, h2, h3, h4, h5⟩⟩ := h
  · cases h1
  · injection h1 with e1 e2 e3
    injection e1 with e1
    injection e1 with e1
    subst e1 e3
    refine ⟨by simpa using hl, .inr ⟨g, cap, cur.setIfInBounds j u, rfl, hb, Blk.set (show Blk w g cur e from hh) j u, h2, h3, by simpa using h4, ?_⟩⟩
    rw [Array.toList_setIfInBounds, List.take_set, h5]

def set7 (xs : List Value) (j : Nat) (y : Sk) : List Value :=
  ((((((xs.set j (.int .i64 y.n)).set (j + 1) (.int .i64 y.p.seq)).set (j + 2) (.int .i64 y.p.time)).set (j + 3) (.bool y.p.f)).set (j + 4) (.bool y.p.e)).set (j + 5) (.bool y.p.k)).set (j + 6) (.string y.p.t)
theorem set7_append (a b : List Value) (j : Nat) (y : Sk) : set7 (a ++ b) (a.length + j) y = a ++ set7 b j y := by
  have h : ∀ (b : List Value) (i : Nat) (u : Value), (a ++ b).set (a.length + i) u = a ++ b.set i u := fun b i u => by
    rw [List.set_append_right _ _ (by omega)]; congr 2; omega
  unfold set7
  simp only [Nat.add_assoc, h]
theorem set7_cells (y : Sk) : ∀ (l : List Sk) (k : Nat), k < l.length → set7 (skCells l) (k * 7) y = skCells (l.set k y)
  | [], _, h => by simp at h
  | x :: r, 0, _ => by simp [skCells, Sk.cells, set7]
  | x :: r, k + 1, h => by
    have e : skCells (x :: r) = x.cells.toList ++ skCells r := by simp [skCells]
    have e2 : skCells ((x :: r).set (k + 1) y) = x.cells.toList ++ skCells (r.set k y) := by simp [skCells]
    rw [e, e2, show (k + 1) * 7 = x.cells.toList.length + k * 7 by simp [Sk.cells]; omega, set7_append, set7_cells y r k (by simpa using h)]

/-- seven cells of a slot, stored -/
def World.put7 (w : World) (g j : Nat) (y : Sk) : World :=
  ((((((w.setCell ⟨g, j, none⟩ (.int .i64 y.n)).setCell ⟨g, j + 1, none⟩ (.int .i64 y.p.seq)).setCell ⟨g, j + 2, none⟩ (.int .i64 y.p.time)).setCell ⟨g, j + 3, none⟩ (.bool y.p.f)).setCell ⟨g, j + 4, none⟩ (.bool y.p.e)).setCell ⟨g, j + 5, none⟩ (.bool y.p.k)).setCell ⟨g, j + 6, none⟩ (.string y.p.t)
theorem own_put7 {w : World} {base : Nat} {e : TypeId} {g n cap k : Nat} {l : List Sk} (h : w.ownsRow base e 7 (.slice (some ⟨g, 0, none⟩) n cap) n (skCells l)) (hk : k < l.length) (y : Sk) :
    (World.put7 w g (k * 7) y).ownsRow base e 7 (.slice (some ⟨g, 0, none⟩) n cap) n (skCells (l.set k y)) := by
  rw [← set7_cells y l k hk]
  exact own_set (own_set (own_set (own_set (own_set (own_set (own_set h _) _) _) _) _) _) _
theorem put7_block {w : World} {g j : Nat} {y : Sk} {b : Nat} (h : b ≠ g) : (World.put7 w g j y).heap[b]? = w.heap[b]? := by
  unfold World.put7
  rw [Below.heap_setCell _ _ _ _ (by exact h), Below.heap_setCell _ _ _ _ (by exact h), Below.heap_setCell _ _ _ _ (by exact h), Below.heap_setCell _ _ _ _ (by exact h), Below.heap_setCell _ _ _ _ (by exact h), Below.heap_setCell _ _ _ _ (by exact h), Below.heap_setCell _ _ _ _ (by exact h)]
theorem put7_size {w : World} {g j : Nat} {y : Sk} : (World.put7 w g j y).heap.size = w.heap.size := by simp [World.put7]
theorem put7_below {B : Nat} {w0 w : World} {g j : Nat} {y : Sk} (h : Below B w0 w) (hg : B ≤ g) : Below B w0 (World.put7 w g j y) := by
  unfold World.put7
  exact (((((((h.setCell (by exact hg) _).setCell (by exact hg) _).setCell (by exact hg) _).setCell (by exact hg) _).setCell (by exact hg) _).setCell (by exact hg) _).setCell (by exact hg) _)

theorem putAt_len (l : List Sk) (k : Nat) (x : Sk) (hk : k ≤ l.length) : (putAt l k x).length = l.length + 1 := by simp [putAt]; omega
theorem putAt_at (l : List Sk) (k : Nat) (x : Sk) (hk : k ≤ l.length) : (putAt l k x)[k]? = some x := by
  unfold putAt
  rw [List.getElem?_append_right (by simp; omega)]
  simp [Nat.min_eq_left hk]
theorem putAt_ahead (l : List Sk) (k j : Nat) (x : Sk) (hk : k ≤ l.length) (hj : j < k) : (putAt l k x)[j]? = l[j]? := by
  unfold putAt
  rw [List.getElem?_append_left (by simp; omega), List.getElem?_take, if_pos hj]
theorem putAt_swap (x : Sk) : ∀ (l : List Sk) (k : Nat), k < l.length → ((putAt l (k + 1) x).set (k + 1) (l[k]?.getD Sk.zero)).set k x = putAt l k x
  | [], _, h => by simp at h
  | y :: r, 0, _ => by simp [putAt]
  | y :: r, k + 1, h => by
    have := putAt_swap x r k (by simpa using h)
    simp only [putAt, List.take_succ_cons, List.drop_succ_cons, List.cons_append, List.set_cons_succ, List.getElem?_cons_succ, List.cons.injEq, true_and] at this ⊢
    exact this
theorem upB_ge {a : Int} {l : List Sk} (h : upB a l = true) {k : Nat} (hk : k < l.length) : (l[0]?.getD Sk.zero).n ≤ (l[k]?.getD Sk.zero).n := by
  cases l with
  | nil => simp at hk
  | cons y r =>
    cases k with
    | zero => exact Int.le_refl _
    | succ k =>
      simp only [upB, Bool.and_eq_true] at h
      have hk' : k < r.length := by simpa using hk
      have := upB_all h.2 r[k] (List.getElem_mem hk')
      simp [hk']
      omega
theorem place_of (x : Sk) : ∀ (l : List Sk) (k : Nat) (a : Int), upB a l = true → k ≤ l.length → (∀ y ∈ l.drop k, x.n < y.n) → (k = 0 ∨ ¬ x.n < (l[k - 1]?.getD Sk.zero).n) → place l x = k
  | [], k, _, _, hk, _, _ => by have : k = 0 := by simpa using hk
                                rw [this]; rfl
  | y :: r, 0, _, _, _, h1, _ => by
    rw [place_cons, if_pos (h1 y (by simp))]
  | y :: r, k + 1, a, hu, hk, h1, h2 => by
    have hge := upB_ge hu (k := k) (by simp at hk ⊢; omega)
    have h2' : ¬ x.n < ((y :: r)[k]?.getD Sk.zero).n := by
      rcases h2 with h2 | h2
      · omega
      · simpa using h2
    have hy : ¬ x.n < y.n := by
      have : ((y :: r)[0]?.getD Sk.zero).n = y.n := rfl
      omega
    rw [place_cons, if_neg hy]
    simp only [upB, Bool.and_eq_true] at hu
    rw [place_of x r k y.n hu.2 (by simpa using hk) (by simpa using h1) (by
      cases k with
      | zero => left; rfl
      | succ k => right; simpa using h2')]

end Go.Proofs.YtnpaejknoipicafGreat

namespace Go.Proofs.YtnpaejknoipicafGreat
open Go.RowKit

set_option maxHeartbeats 4000000 in
set_option maxRecDepth 100000 in
theorem putOf_any (next : Int) (v : Value) (l : List Sk) (x : Sk) (w : World) (hv : Sls w v l) (hR : Right next l) (hx : x.chk = 0) :
    Calls Tryz.prog 75 #[.agg #[.int .i64 next, v], x.val] w fun e w' => ∃ hv' ov', e = .returned (.tuple #[.agg #[.int .i64 (putF next l x).1, hv'], ov']) ∧
      Sls w' hv' (putF next l x).2.1 ∧ Sls w' ov' (putF next l x).2.2 ∧ Below w.heap.size w w' ∧ (0 < (putF next l x).2.1.length → ∀ g, hv'.ownBlock = some g → (v.ownBlock = some g ∧ 0 < l.length) ∨ w.heap.size ≤ g) ∧ (∀ g, ov'.ownBlock = some g → w.heap.size ≤ g) := by
  obtain ⟨i0, hi, hz0, hz1, hz2⟩ := info_parts Tryz.infoSlot
  obtain ⟨ao, c, hva, hc⟩ := hv.parts
  have HV : Hid (Sls w v l) := hv
  have HRI : Hid (Right next l) := hR
  obtain ⟨n, hn⟩ : ∃ n, n = l.length := ⟨_, rfl⟩
  have HN : Hid (n = l.length) := hn
  have HC : Hid (∀ k, k < l.length → ∃ b off, ao = some ⟨b, off, none⟩ ∧ b < w.heap.size ∧ At7 w b (off + k * 7) (l[k]?.getD Sk.zero)) := hc
  have hn4 : n ≤ 4 := by rw [hn]; exact hR.2.1
  have hxn := Sk.chk_zero hx
  have hx1 : 65536 ≤ x.n ∧ x.n ≤ 1000000000 := ⟨hxn.1, hxn.2.1⟩
  rw [← hn] at hva
  obtain ⟨nx, hnx⟩ : ∃ nx : Int, nx = if next = 0 then x.n else next := ⟨_, rfl⟩
  have HNX : Hid (nx = if next = 0 then x.n else next) := hnx
  have hnx1 : 65536 ≤ nx ∧ nx ≤ 1000000001 := by
    rw [hnx]
    split
    · omega
    · rcases hR.1 with ⟨h, _⟩ | h
      · contradiction
      · exact h
  obtain ⟨R, hR'⟩ : ∃ R, R = putF next l x := ⟨_, rfl⟩
  have HR : Hid (R = putF next l x) := hR'
  rw [← hR']
  have HRR : Hid (x.n < nx → R = (nx, l, [])) := fun h => by rw [hR']; unfold putF; rw [← hnx, if_pos h]
  have HRR2 : Hid ((l.any fun y => y.n == x.n) = true → R = (nx, l, [])) := fun h => by
    rw [hR']; unfold putF; rw [← hnx, if_pos h]
    split <;> rfl
  have HRR3 : Hid (nx ≤ x.n → (l.any fun y => y.n == x.n) = false → R = relF 4 nx (insF l x) []) := fun h h2 => by
    rw [hR']; unfold putF; rw [← hnx, if_neg (by omega), h2, if_neg (by simp)]
  clear hv hn hc hnx hR' hR hxn hx
  subst hva
  obtain ⟨X, hX⟩ : ∃ X : Sk, X = x := ⟨_, rfl⟩
  have HX : Hid (X = x) := hX
  clear hX
  obtain ⟨xn, seq, time, xf, xe, xk, xt⟩ := x
  simp only [Sk.val] at hx1 HRR HRR3 HNX ⊢
  go_enter Tryz.func75, Tryz.ntmps75
  go_upto_if 11 with fail
  go_cut [] (fun wc => Hid (Blk wc w.heap.size #[.int .i64 nx, .slice ao n c] 57) ∧ Hid (Blk wc (w.heap.size + 1) #[.int .i64 xn, .int .i64 seq, .int .i64 time, .bool xf, .bool xe, .bool xk, .string xt] 91) ∧ Hid (Blk wc (w.heap.size + 1 + 1) #[.int .i64 0, .slice none 0 0] 57) ∧ Hid (Below w.heap.size w wc))
  case first =>
    obtain ⟨W, hW⟩ : ∃ W, W = (((w.alloc (.cells #[.int .i64 next, .slice ao n c] 57)).alloc (.cells #[.int .i64 xn, .int .i64 seq, .int .i64 time, .bool xf, .bool xe, .bool xk, .string xt] 91)).alloc (.cells #[.int .i64 0, .slice none 0 0] 57)) := ⟨_, rfl⟩
    rw [← hW]
    obtain ⟨kb, kx, kr, bW, sW⟩ := blocks3 (w := w) (w1 := W) (by rw [hW]; exact Below.refl _ _)
    clear hW
    obtain ⟨b0, b1⟩ := kb.two
    have x0 := kx.seven.1
    have fr := kb.free
    have KB : Hid (Blk W w.heap.size #[.int .i64 next, .slice ao n c] 57) := kb
    have KX : Hid (Blk W (w.heap.size + 1) #[.int .i64 xn, .int .i64 seq, .int .i64 time, .bool xf, .bool xe, .bool xk, .string xt] 91) := kx
    have KR : Hid (Blk W (w.heap.size + 1 + 1) #[.int .i64 0, .slice none 0 0] 57) := kr
    have BW : Hid (Below w.heap.size w W) := bW
    clear kb kx kr bW
    by_cases h0 : next = 0
    · have e : nx = xn := by rw [HNX.out, if_pos h0]
      subst h0
      go_wp2_with fail
      go_meet
      case rel =>
        rw [e]
        exact ⟨KB.out.set 0 _, KX.out.other (by simp) _, KR.out.other (by simp; omega) _, BW.out.setCell (by simp) _⟩
    · have e : nx = next := by rw [HNX.out, if_neg h0]
      go_wp2_with fail
      go_meet
      case rel =>
        rw [e]
        exact ⟨KB, KX, KR, BW⟩
  case rest =>
    obtain ⟨KB, KX, KR, BC⟩ := hcut
    go_wp2_with fail
    go_loopw [6] (fun i wr => ∃ k : Nat, k ≤ n ∧ i = .int .i64 k ∧ Hid (∀ j, j < k → ¬ (l[j]?.getD Sk.zero).n = xn) ∧ Hid (Below wc.heap.size wc wr))
      (fun i _ => n - (intOf i).toNat)
    case atStart => exact ⟨0, Nat.zero_le _, rfl, (show ∀ j, j < 0 → _ from fun j hj => absurd hj (Nat.not_lt_zero _)), Below.refl _ _⟩
    case round =>
      obtain ⟨k, hk, rfl, HK, HB⟩ := hrel
      have kb := Blk.below KB.out HB.out (Blk.lt KB.out)
      have kx := Blk.below KX.out HB.out (Blk.lt KX.out)
      have kr := Blk.below KR.out HB.out (Blk.lt KR.out)
      have BR : Hid (Below w.heap.size w wr) := BC.out.trans (HB.out.mono BC.out.size)
      have KB1 : Hid (Blk wr w.heap.size #[.int .i64 nx, .slice ao n c] 57) := kb
      have KX1 : Hid (Blk wr (w.heap.size + 1) #[.int .i64 xn, .int .i64 seq, .int .i64 time, .bool xf, .bool xe, .bool xk, .string xt] 91) := kx
      have KR1 : Hid (Blk wr (w.heap.size + 1 + 1) #[.int .i64 0, .slice none 0 0] 57) := kr
      obtain ⟨b0, b1⟩ := kb.two
      obtain ⟨x0, x1, x2, x3, x4, x5, x6⟩ := kx.seven
      obtain ⟨r0, r1⟩ := kr.two
      have rf := kr.free
      clear kb kx kr
      by_cases hlt : k < n
      · obtain ⟨b, off, rfl, hbb, hat⟩ := HC.out k (by rw [← HN.out]; exact hlt)
        have c0 := (hat.below BR.out hbb).1
        obtain ⟨y, hy⟩ : ∃ y, y = (l[k]?.getD Sk.zero).n := ⟨_, rfl⟩
        rw [← hy] at c0
        have HY : Hid (y = (l[k]?.getD Sk.zero).n) := hy
        have hlti : (k : Int) < (n : Int) := by omega
        clear hy hat
        by_cases he : y = xn
        · have hd : (y == xn) = true := by simpa using he
          have HRE : Hid (R = (nx, l, [])) := HRR2.out (by
            rw [List.any_eq_true]
            have hkl : k < l.length := by rw [← HN.out]; exact hlt
            refine ⟨l[k], List.getElem_mem hkl, ?_⟩
            have := HY.out
            rw [List.getElem?_eq_getElem hkl, Option.getD_some] at this
            simp [← this, he])
          go_wp2
          go_quiet (fail)
          go_wp2
          refine bodyPost_ret (v := .tuple #[.agg #[.int .i64 nx, .slice (some ⟨b, off, none⟩) n c], .slice none 0 0]) (by simp [results, Tryz.results75, go_sem, r0, r1]) rfl ?_
          rw [HRE.out]
          have b3 := ((below_drewN BR.out nq).setCell (p := ⟨w.heap.size + 1 + 1, 0, none⟩) (by simp; omega) (.int .i64 nx)).setCell (p := ⟨w.heap.size + 1 + 1, 1, none⟩) (by simp; omega) (.slice (some ⟨b, off, none⟩) n c)
          exact ⟨_, _, rfl, HV.out.below b3, Sls.nil _, b3, fun h0 g hg => .inl ⟨hg, h0⟩, fun g hg => by simp [Value.ownBlock] at hg⟩
        · have hd : (y == xn) = false := by simpa using he
          go_wp2
          go_quiet (fail)
          go_wp2
          go_roundw
          case rel =>
            refine ⟨k + 1, by omega, by go_num, (show ∀ j, j < k + 1 → _ from fun j hj => ?_), below_drewN HB.out _⟩
            by_cases e : j = k
            · subst e; rw [← HY.out]; exact he
            · exact HK.out j (by omega)
          case measure => simp [intOf]; omega
      · have hkl : k = n := by omega
        subst hkl
        have HANY : Hid ((l.any fun y => y.n == xn) = false) := by
          show _ = _
          rw [List.any_eq_false]
          intro y hy
          obtain ⟨j, hj, rfl⟩ := List.getElem_of_mem hy
          have := HK.out j (by rw [HN.out]; exact hj)
          rw [List.getElem?_eq_getElem hj, Option.getD_some] at this
          simpa using this
        by_cases hl : xn < nx
        · have HRE : Hid (R = (nx, l, [])) := HRR.out hl
          go_wp2
          refine bodyPost_ret (v := .tuple #[.agg #[.int .i64 nx, .slice ao k c], .slice none 0 0]) (by simp [results, Tryz.results75, go_sem, r0, r1]) rfl ?_
          rw [HRE.out]
          have b3 := (BR.out.setCell (p := ⟨w.heap.size + 1 + 1, 0, none⟩) (by simp; omega) (.int .i64 nx)).setCell (p := ⟨w.heap.size + 1 + 1, 1, none⟩) (by simp; omega) (.slice ao k c)
          exact ⟨_, _, rfl, HV.out.below b3, Sls.nil _, b3, fun h0 g hg => .inl ⟨hg, h0⟩, fun g hg => by simp [Value.ownBlock] at hg⟩
        · have HRE : Hid (R = relF 4 nx (insF l X) []) := by rw [HX.out]; exact HRR3.out (by omega) HANY.out
          go_wp2_with fail
          have happ : App1 Tryz.prog wr 55 91 55 7 k (skCells l) (.slice ao k c) := by
            refine app1_any wr _ _ _ i0 _ 7 48 Tryz.underlying55 hi hz0 hz1 hz2 rfl (by decide) k (skCells l) (.slice ao k c) ?_ (sk_one l) (by unfold maxLen; omega) (by omega)
            have := HV.out.below BR.out
            unfold Sls at this
            rw [← HN.out] at this
            exact this
          refine region_app2 (by kernel_rfl) (by kernel_rfl) (by kernel_rfl) 55 91 i0 _ 7 48 Tryz.underlying55 hi hz0 hz1 hz2 rfl (by decide) 38 39 40 41 42 43 44 7 2 rfl rfl rfl rfl rfl rfl rfl rfl (by rfl) k (skCells l) (.slice ao k c) happ
            [.int .i64 xn, .int .i64 seq, .int .i64 time, .bool xf, .bool xe, .bool xk, .string xt] rfl ?hx1 (.pointer (some ⟨w.heap.size, 1, none⟩)) (.agg #[.int .i64 xn, .int .i64 seq, .int .i64 time, .bool xf, .bool xe, .bool xk, .string xt]) 3 (by rfl) ?r0 ?r1 ?r2 rfl ?r4 ?r5 rfl ?r7 (by unfold maxLen; omega) (by omega) ?_
          case hx1 => exact oneSlot ⟨xn, ⟨seq, time, xf, xe, xk, xt⟩⟩
          case r0 =>
            intro a' w'
            generalize a'.eval = ρ
            simp [execOp, go_sem]
          case r1 =>
            intro a' w' h
            have h2 : a'.eval (.tmp 2) = .pointer (some ⟨w.heap.size, 0, none⟩) := h.trans rfl
            clear h
            generalize a'.eval = ρ at *
            simp [execOp, go_sem, h2]
          case r2 =>
            intro a' w' h hb
            have c1 := (hb.cell (p := ⟨w.heap.size, 1, none⟩) (Blk.lt KB1.out)).trans b1
            generalize a'.eval = ρ at *
            simp [execOp, go_sem, h, c1]
          case r4 =>
            intro a' w' h hb
            have h2 : a'.eval (.tmp 3) = .pointer (some ⟨w.heap.size + 1, 0, none⟩) := h.trans rfl
            obtain ⟨y0, y1, y2, y3, y4, y5, y6⟩ := (KX1.out.below hb (Blk.lt KX1.out)).seven
            clear h
            generalize a'.eval = ρ at *
            simp [execOp, go_sem, h2, y0, y1, y2, y3, y4, y5, y6]
          case r5 =>
            intro a' w' h
            generalize a'.eval = ρ at *
            simp [execOp, go_sem, h]
          case r7 =>
            intro a' w'
            generalize a'.eval = ρ at *
            simp [execOp, go_sem]
          intro u0 u3 u5 v7 w7 hown7 hb7
          have hlw := Blk.lt KR1.out
          obtain ⟨g, cap, hv7, hg7, hcap7⟩ : ∃ g cap, v7 = .slice (some ⟨g, 0, none⟩) (k + 1) cap ∧ wr.heap.size ≤ g ∧ k + 1 ≤ cap := by
            obtain ⟨_, ⟨_, h⟩ | ⟨g, cap, cur, h1, h2, _, h3, _⟩⟩ := hown7
            · omega
            · exact ⟨g, cap, h1, h2, h3⟩
          subst hv7
          have OW7 : Hid (w7.ownsRow wr.heap.size 91 7 (.slice (some ⟨g, 0, none⟩) (k + 1) cap) (k + 1) (skCells (putAt l k X))) := by
            show World.ownsRow _ _ _ _ _ _ _
            have e : skCells (putAt l k X) = skCells l ++ [.int .i64 xn, .int .i64 seq, .int .i64 time, .bool xf, .bool xe, .bool xk, .string xt] := by
              unfold putAt
              rw [HN.out, List.take_length, List.drop_length, skCells_append, skCells_one, HX.out]
              rfl
            rw [e]; exact hown7
          obtain ⟨Z, hZ⟩ : ∃ Z, Z = wr.heap.size := ⟨_, rfl⟩
          have B7 : Hid (Below w.heap.size w w7) := BR.out.trans (hb7.mono BR.out.size)
          have KB7 : Hid (Blk w7 w.heap.size #[.int .i64 nx, .slice ao k c] 57) := Blk.below KB1.out hb7 (Blk.lt KB1.out)
          have KR7 : Hid (Blk w7 (w.heap.size + 1 + 1) #[.int .i64 0, .slice none 0 0] 57) := Blk.below KR1.out hb7 (Blk.lt KR1.out)
          rw [← hZ] at OW7 hg7 hlw
          clear hown7 hb7 happ hZ KB1 KR1 KX1 BR b0 b1 x0 x1 x2 x3 x4 x5 x6 r0 r1 rf KB KX KR BC HB
          have hki : ((k + 1 : Nat) : Int) - 1 = (k : Int) := by omega
          have HREL : Hid (∀ U : World, Sls U (.slice (some ⟨g, 0, none⟩) (k + 1) cap) (insF l X) → Calls Tryz.prog 119 #[.agg #[.int .i64 nx, .slice (some ⟨g, 0, none⟩) (k + 1) cap], .int .i64 4] U fun e w' => ∃ hv' ov', e = .returned (.tuple #[.agg #[.int .i64 R.1, hv'], ov']) ∧
              Sls w' hv' R.2.1 ∧ Sls w' ov' R.2.2 ∧ Below U.heap.size U w' ∧ (0 < R.2.1.length → ∀ g', hv'.ownBlock = some g' → (Value.slice (some ⟨g, 0, none⟩) (k + 1) cap).ownBlock = some g' ∨ U.heap.size ≤ g') ∧ (∀ g', ov'.ownBlock = some g' → U.heap.size ≤ g')) := fun U hs => by
            have hnl : Nums l := fun y hy => by have := Sk.chk_zero (HRI.out.2.2.1 y hy); omega
            have := released_any 4 nx (.slice (some ⟨g, 0, none⟩) (k + 1) cap) (insF l X) U hs (fun a n c e => by injection e with _ e2 e3; omega) (nums_ins hnl (by rw [HX.out]; exact hx1)) (by omega) (by rw [insF_len, ← HN.out]; omega)
            rw [← HRE.out] at this
            exact this
          go_wp2_with fail
          go_loopw [8] (fun i w8 => ∃ j : Nat, j ≤ k ∧ i = .int .i64 j ∧ Hid (w8.ownsRow Z 91 7 (.slice (some ⟨g, 0, none⟩) (k + 1) cap) (k + 1) (skCells (putAt l j X))) ∧ Hid (∀ y ∈ l.drop j, xn < y.n) ∧ Hid (Blk w8 w.heap.size #[.int .i64 nx, .slice ao k c] 57) ∧ Hid (Blk w8 (w.heap.size + 1 + 1) #[.int .i64 0, .slice none 0 0] 57) ∧ Hid (Below w.heap.size w w8))
            (fun i _ => (intOf i).toNat)
          case atStart => exact ⟨k, Nat.le_refl _, by go_num, OW7.out, (show ∀ y ∈ _, _ from by rw [HN.out, List.drop_length]; intro y hy; cases hy), KB7.out, KR7.out, B7.out⟩
          case round =>
            obtain ⟨j, hj, rfl, HO, HU, KB8, KR8, B8⟩ := hrel
            obtain ⟨b0, b1⟩ := Blk.two KB8.out
            have hplen : (putAt l j X).length = k + 1 := by rw [putAt_len l j X (by rw [← HN.out]; exact hj), HN.out]
            have HPL : Hid ((putAt l j X).length = k + 1) := hplen
            have hsl : Sls wr (.slice (some ⟨g, 0, none⟩) (k + 1) cap) (putAt l j X) := Sls.of_owns (base := Z) (by rw [hplen]; exact HO.out)
            obtain ⟨a8, c8, e8, hat8⟩ := hsl.parts
            rw [hplen] at e8 hat8
            injection e8 with e8a _ e8c
            subst e8a
            clear e8c
            have HAT : Hid (∀ q, q < k + 1 → ∃ b off, some (⟨g, 0, none⟩ : Addr) = some ⟨b, off, none⟩ ∧ b < wr.heap.size ∧ At7 wr b (off + q * 7) ((putAt l j X)[q]?.getD Sk.zero)) := hat8
            clear hat8 hsl hplen
            have HEND : Hid (∀ (q : Nat), q = place l X → q = j → Sls wr (.slice (some ⟨g, 0, none⟩) (k + 1) cap) (insF l X)) := fun q h1 h2 => by
              have e : insF l X = putAt l j X := by unfold insF; rw [← h1, h2]
              rw [e]
              refine Sls.of_owns (base := Z) ?_
              rw [HPL.out]; exact HO.out
            cases j with
            | zero =>
              have hd : decide ((0 : Int) < 0) = false := rfl
              have HINS : Hid (Sls wr (.slice (some ⟨g, 0, none⟩) (k + 1) cap) (insF l X)) := HEND.out 0 (place_of X l 0 next HRI.out.2.2.2 (Nat.zero_le _) (by rw [HX.out]; exact HU.out) (.inl rfl)).symm rfl
              clear HAT HEND
              go_wp2_with fail
              go_quiet (fail)
              go_wp2_with fail
              refine (HREL.out _ (HINS.out.below (below_drewN (Below.refl _ _) _))).mono ?_
              rintro e w9 ⟨hv', ov', rfl, s1, s2, hb9, f1, f2⟩
              obtain ⟨a1, c1, e1⟩ := s1.len
              obtain ⟨a2, c2, e2⟩ := s2.len
              subst e1 e2
              have b89 := (below_drewN (Below.refl _ wr) nq).trans hb9
              have kr9 : Blk w9 (w.heap.size + 1 + 1) #[.int .i64 0, .slice none 0 0] 57 := KR8.out.below b89 KR8.out.lt
              obtain ⟨r0, r1⟩ := kr9.two
              have rf := kr9.free
              have hsz9 : Z ≤ wr.heap.size := Nat.le_of_lt (Nat.lt_of_le_of_lt hg7 ((HO.out.lt g rfl).2))
              have HF : Hid (∀ w3 : World, Hid (w3 = (w9.setCell ⟨w.heap.size + 1 + 1, 0, none⟩ (.int .i64 R.1)).setCell ⟨w.heap.size + 1 + 1, 1, none⟩ (.slice a1 R.2.1.length c1)) → Sls w3 (.slice a1 R.2.1.length c1) R.2.1 ∧ Sls w3 (.slice a2 R.2.2.length c2) R.2.2 ∧ Below w.heap.size w w3 ∧ (0 < R.2.1.length → ∀ g', (Value.slice a1 R.2.1.length c1).ownBlock = some g' → ((Value.slice ao k c).ownBlock = some g' ∧ 0 < l.length) ∨ w.heap.size ≤ g') ∧ (∀ g', (Value.slice a2 R.2.2.length c2).ownBlock = some g' → w.heap.size ≤ g')) := fun w3 hw3 => by
                have hblk : ∀ j, j ≠ w.heap.size + 1 + 1 → w3.heap[j]? = w9.heap[j]? := fun j hj => by rw [hw3.out, Below.heap_setCell _ _ _ _ (by exact hj), Below.heap_setCell _ _ _ _ (by exact hj)]
                have hs3 : w3.heap.size = w9.heap.size := by rw [hw3.out]; simp
                refine ⟨s1.same (by omega) (fun h0 g' hg' => hblk g' ?_), s2.same (by omega) (fun _ g' hg' => hblk g' (by have := f2 g' hg'; change wr.heap.size ≤ g' at this; omega)), ?_⟩
                · rcases f1 h0 g' hg' with h | h
                  · simp only [Value.ownBlock, Option.some.injEq] at h; omega
                  · change wr.heap.size ≤ g' at h; omega
                · refine ⟨by rw [hw3.out]; exact ((B8.out.trans (b89.mono B8.out.size)).setCell (by simp; omega) _).setCell (by simp; omega) _, fun h0 g' hg' => ?_, fun g' hg' => by have := f2 g' hg'; change wr.heap.size ≤ g' at this; omega⟩
                  rcases f1 h0 g' hg' with h | h
                  · right; simp only [Value.ownBlock, Option.some.injEq] at h; omega
                  · right; change wr.heap.size ≤ g' at h; omega
              clear hb9 kr9 b89 f1 f2 s1 s2
              go_wp2
              exact bodyPost_ret (v := .tuple #[.agg #[.int .i64 R.1, .slice a1 R.2.1.length c1], .slice a2 R.2.2.length c2]) (by simp [results, Tryz.results75, go_sem, r0, r1]) rfl ⟨_, _, rfl, HF.out _ rfl⟩
            | succ m =>
              obtain ⟨b', off', e', hb', hat'⟩ := HAT.out (m + 1) (by omega)
              cases e'
              obtain ⟨b', off', e', _, hat''⟩ := HAT.out m (by omega)
              cases e'
              rw [putAt_at l (m + 1) X (by rw [← HN.out]; exact hj), Option.getD_some, HX.out] at hat'
              rw [putAt_ahead l (m + 1) m X (by rw [← HN.out]; exact hj) (by omega)] at hat''
              obtain ⟨y, hy⟩ : ∃ y, y = l[m]?.getD Sk.zero := ⟨_, rfl⟩
              rw [← hy] at hat''
              have HY : Hid (y = l[m]?.getD Sk.zero) := hy
              simp only [Nat.zero_add] at hat' hat''
              obtain ⟨p0, p1, p2, p3, p4, p5, p6⟩ := hat'
              obtain ⟨q0, q1, q2, q3, q4, q5, q6⟩ := hat''
              have hmi : ((m + 1 : Nat) : Int) - 1 = (m : Int) := by omega
              have hmk : (m : Int) < ((k + 1 : Nat) : Int) := by omega
              have hmk2 : ((m + 1 : Nat) : Int) < ((k + 1 : Nat) : Int) := by omega
              have hd : decide ((0 : Int) < ((m + 1 : Nat) : Int)) = true := decide_eq_true (by omega)
              clear hy
              by_cases hlt2 : xn < y.n
              · have hd2 : decide (xn < y.n) = true := decide_eq_true hlt2
                have fz : ∀ q, wr.frozen? ⟨g, q, none⟩ = false := fun q => by
                  obtain ⟨_, cur, hcur⟩ := owns_blk HO.out (g := g) rfl
                  exact hcur.free q
                go_wp2_with fail
                go_quiet (fail)
                go_wp2_with fail
                go_region
                obtain ⟨w8, hw8⟩ : ∃ w8, w8 = World.put7 (World.put7 (wr.drewN (nq + 1)) g ((m + 1) * 7) y) g (m * 7) X := ⟨_, rfl⟩
                have e8 : World.put7 (World.put7 (wr.drewN (nq + 1)) g ((m + 1) * 7) y) g (m * 7) ⟨xn, ⟨seq, time, xf, xe, xk, xt⟩⟩ = w8 := by rw [hw8, HX.out]
                have O8 : Hid (w8.ownsRow Z 91 7 (.slice (some ⟨g, 0, none⟩) (k + 1) cap) (k + 1) (skCells (putAt l m X))) := by
                  show World.ownsRow _ _ _ _ _ _ _
                  have hml : m < l.length := by rw [← HN.out]; omega
                  rw [hw8, ← putAt_swap X l m hml, ← HY.out]
                  have hO : (wr.drewN (nq + 1)).ownsRow Z 91 7 (.slice (some ⟨g, 0, none⟩) (k + 1) cap) (k + 1) (skCells (putAt l (m + 1) X)) := owns_same HO.out (fun _ _ => rfl)
                  exact own_put7 (own_put7 hO (by rw [HPL.out]; omega) y) (by rw [List.length_set, HPL.out]; omega) X
                have hblk : ∀ j, j ≠ g → w8.heap[j]? = wr.heap[j]? := fun j hj => by rw [hw8, put7_block hj, put7_block hj]; rfl
                have K8 : Hid (Blk w8 w.heap.size #[.int .i64 nx, .slice ao k c] 57) := (hblk _ (by omega)).trans KB8.out
                have R8 : Hid (Blk w8 (w.heap.size + 1 + 1) #[.int .i64 0, .slice none 0 0] 57) := (hblk _ (by omega)).trans KR8.out
                have L8 : Hid (Below w.heap.size w w8) := by
                  show Below _ _ _
                  rw [hw8]; exact put7_below (put7_below (below_drewN B8.out _) (by omega)) (by omega)
                have U8 : Hid (∀ z ∈ l.drop m, xn < z.n) := fun z hz => by
                  have hml : m < l.length := by rw [← HN.out]; omega
                  rw [List.drop_eq_getElem_cons hml] at hz
                  rcases List.mem_cons.1 hz with rfl | hz
                  · have := HY.out
                    rw [List.getElem?_eq_getElem hml, Option.getD_some] at this
                    rw [← this]; exact hlt2
                  · exact HU.out z hz
                change Exit.inBlock _ _ _ _ (World.put7 (World.put7 (wr.drewN (nq + 1)) g ((m + 1) * 7) y) g (m * 7) ⟨xn, ⟨seq, time, xf, xe, xk, xt⟩⟩)
                rw [e8]
                clear hw8 e8 hblk p0 p1 p2 p3 p4 p5 p6 q0 q1 q2 q3 q4 q5 q6 fz b0 b1 HO KB8 KR8 B8 HU HAT HEND
                go_wp2_with fail
                go_roundw
                case rel => exact ⟨m, by omega, by go_num, O8.out, U8.out, K8.out, R8.out, L8.out⟩
                case measure => simp [intOf]
              · have hd2 : decide (xn < y.n) = false := decide_eq_false hlt2
                have HINS : Hid (Sls wr (.slice (some ⟨g, 0, none⟩) (k + 1) cap) (insF l X)) := HEND.out (m + 1) (place_of X l (m + 1) next HRI.out.2.2.2 (by rw [← HN.out]; exact hj) (by rw [HX.out]; exact HU.out) (.inr (by rw [show m + 1 - 1 = m by omega, ← HY.out, HX.out]; exact hlt2))).symm rfl
                clear HAT HEND
                go_wp2_with fail
                go_quiet (fail)
                go_wp2_with fail
                refine (HREL.out _ (HINS.out.below (below_drewN (Below.refl _ _) _))).mono ?_
                rintro e w9 ⟨hv', ov', rfl, s1, s2, hb9, f1, f2⟩
                obtain ⟨a1, c1, e1⟩ := s1.len
                obtain ⟨a2, c2, e2⟩ := s2.len
                subst e1 e2
                have b89 := (below_drewN (Below.refl _ wr) nq).trans hb9
                have kr9 : Blk w9 (w.heap.size + 1 + 1) #[.int .i64 0, .slice none 0 0] 57 := KR8.out.below b89 KR8.out.lt
                obtain ⟨r0, r1⟩ := kr9.two
                have rf := kr9.free
                have hsz9 : Z ≤ wr.heap.size := Nat.le_of_lt (Nat.lt_of_le_of_lt hg7 ((HO.out.lt g rfl).2))
                have HF : Hid (∀ w3 : World, Hid (w3 = (w9.setCell ⟨w.heap.size + 1 + 1, 0, none⟩ (.int .i64 R.1)).setCell ⟨w.heap.size + 1 + 1, 1, none⟩ (.slice a1 R.2.1.length c1)) → Sls w3 (.slice a1 R.2.1.length c1) R.2.1 ∧ Sls w3 (.slice a2 R.2.2.length c2) R.2.2 ∧ Below w.heap.size w w3 ∧ (0 < R.2.1.length → ∀ g', (Value.slice a1 R.2.1.length c1).ownBlock = some g' → ((Value.slice ao k c).ownBlock = some g' ∧ 0 < l.length) ∨ w.heap.size ≤ g') ∧ (∀ g', (Value.slice a2 R.2.2.length c2).ownBlock = some g' → w.heap.size ≤ g')) := fun w3 hw3 => by
                  have hblk : ∀ j, j ≠ w.heap.size + 1 + 1 → w3.heap[j]? = w9.heap[j]? := fun j hj => by rw [hw3.out, Below.heap_setCell _ _ _ _ (by exact hj), Below.heap_setCell _ _ _ _ (by exact hj)]
                  have hs3 : w3.heap.size = w9.heap.size := by rw [hw3.out]; simp
                  refine ⟨s1.same (by omega) (fun h0 g' hg' => hblk g' ?_), s2.same (by omega) (fun _ g' hg' => hblk g' (by have := f2 g' hg'; change wr.heap.size ≤ g' at this; omega)), ?_⟩
                  · rcases f1 h0 g' hg' with h | h
                    · simp only [Value.ownBlock, Option.some.injEq] at h; omega
                    · change wr.heap.size ≤ g' at h; omega
                  · refine ⟨by rw [hw3.out]; exact ((B8.out.trans (b89.mono B8.out.size)).setCell (by simp; omega) _).setCell (by simp; omega) _, fun h0 g' hg' => ?_, fun g' hg' => by have := f2 g' hg'; change wr.heap.size ≤ g' at this; omega⟩
                    rcases f1 h0 g' hg' with h | h
                    · right; simp only [Value.ownBlock, Option.some.injEq] at h; omega
                    · right; change wr.heap.size ≤ g' at h; omega
                clear hb9 kr9 b89 f1 f2 s1 s2
                go_wp2
                exact bodyPost_ret (v := .tuple #[.agg #[.int .i64 R.1, .slice a1 R.2.1.length c1], .slice a2 R.2.2.length c2]) (by simp [results, Tryz.results75, go_sem, r0, r1]) rfl ⟨_, _, rfl, HF.out _ rfl⟩

end Go.Proofs.YtnpaejknoipicafGreat

namespace Go.Proofs.YtnpaejknoipicafGreat
open Go.RowKit Go.Sort

set_option maxHeartbeats 4000000 in
theorem packetOf_no (l : List UInt8) (w : World) (hform : formB l = false) :
    Calls Tryz.prog 73 #[.string (ba l)] w fun e w' => e = .returned (.tuple #[Pk.zero.val, .int .i64 1]) ∧ Below w.heap.size w w' := by
  simp only [Pk.zero, Pk.val]
  by_cases h8 : l.length < 8
  · have h8' : ((ba l).size : Int) < 8 := by rw [ba_size]; omega
    clear hform
    go_enter Tryz.func73, Tryz.ntmps73
    go_wp2
    exact bodyPost_ret (v := .tuple #[.agg #[.int .i64 0, .int .i64 0, .bool false, .bool false, .bool false, .string ByteArray.empty], .int .i64 1]) (by simp [results, Tryz.results73, go_sem]; rfl) rfl ⟨rfl, by go_grown⟩
  · have h8' : ¬ ((ba l).size : Int) < 8 := by rw [ba_size]; omega
    have hz0 : 0 < (ba l).size := by rw [ba_size]; omega
    have hz7 : 7 < (ba l).size := by rw [ba_size]; omega
    have g0 := ba_get l 0 hz0
    have g7 := ba_get l 7 hz7
    have b0' := at8_lt l 0
    have b7' := at8_lt l 7
    have hno : at8 l 0 < 128 ∨ 135 < at8 l 0 ∨ ((ba l).size : Int) ≠ 8 + at8 l 7 := by
      rw [ba_size]
      simp only [formB, Bool.and_eq_false_iff, decide_eq_false_iff_not] at hform
      omega
    generalize at8 l 0 = a0 at *
    generalize at8 l 7 = a7 at *
    clear hform h8
    by_cases hA : a0 < 128
    · have hA' : (a0 : Int) < 128 := by omega
      clear hno g7 b7'
      go_enter Tryz.func73, Tryz.ntmps73
      go_wp2
      exact bodyPost_ret (v := .tuple #[.agg #[.int .i64 0, .int .i64 0, .bool false, .bool false, .bool false, .string ByteArray.empty], .int .i64 1]) (by simp [results, Tryz.results73, go_sem]; rfl) rfl ⟨rfl, by go_grown⟩
    · have hA' : ¬ (a0 : Int) < 128 := by omega
      by_cases hB : 135 < a0
      · have hB' : (135 : Int) < a0 := by omega
        clear hno g7 b7'
        go_enter Tryz.func73, Tryz.ntmps73
        go_wp2
        exact bodyPost_ret (v := .tuple #[.agg #[.int .i64 0, .int .i64 0, .bool false, .bool false, .bool false, .string ByteArray.empty], .int .i64 1]) (by simp [results, Tryz.results73, go_sem]; rfl) rfl ⟨rfl, by go_grown⟩
      · have hB' : ¬ (135 : Int) < a0 := by omega
        have hne : (((ba l).size : Int) != 8 + (a7 : Int)) = true := by
          rw [bne_iff_ne]
          rcases hno with h | h | h
          · exact absurd h hA
          · exact absurd h hB
          · exact h
        clear hno
        go_enter Tryz.func73, Tryz.ntmps73
        go_wp2
        exact bodyPost_ret (v := .tuple #[.agg #[.int .i64 0, .int .i64 0, .bool false, .bool false, .bool false, .string ByteArray.empty], .int .i64 1]) (by simp [results, Tryz.results73, go_sem]; rfl) rfl ⟨rfl, by go_grown⟩

set_option maxHeartbeats 16000000 in
theorem packetOf_form (l : List UInt8) (w : World) (hform : formB l = true) :
    Calls Tryz.prog 73 #[.string (ba l)] w fun e w' => e = .returned (.tuple #[(if (Pk.told l).chk == 0 then Pk.told l else Pk.zero).val, .int .i64 (Pk.told l).chk]) ∧ Below w.heap.size w w' := by
  have hf4 : ((8 ≤ l.length ∧ l.length = 8 + at8 l 7) ∧ 128 ≤ at8 l 0) ∧ at8 l 0 ≤ 135 := by simpa [formB] using hform
  obtain ⟨⟨⟨h8, hl⟩, hh1⟩, hh2⟩ := hf4
  have h8' : ¬ ((ba l).size : Int) < 8 := by rw [ba_size]; omega
  have hz0 : 0 < (ba l).size := by rw [ba_size]; omega
  have hz7 : 7 < (ba l).size := by rw [ba_size]; omega
  have g0 := ba_get l 0 hz0
  have g7 := ba_get l 7 hz7
  have b7' := at8_lt l 7
  have hne : (((ba l).size : Int) != 8 + (at8 l 7 : Int)) = false := by rw [bne_eq_false_iff_eq, ba_size]; omega
  have HN1 := @id (Hid (∀ w : World, Calls Tryz.prog 117 #[.string (ba l), .int .i64 1, .int .i64 2] w fun e w' => e = .returned (.int .i64 (num ((l.drop 1).take 2))) ∧ w = w')) (fun w => numberAt_any l 1 2 1 2 w rfl rfl (by omega) (by decide) (by decide))
  have HN2 := @id (Hid (∀ w : World, Calls Tryz.prog 117 #[.string (ba l), .int .i64 3, .int .i64 4] w fun e w' => e = .returned (.int .i64 (num ((l.drop 3).take 4))) ∧ w = w')) (fun w => numberAt_any l 3 4 3 4 w rfl rfl (by omega) (by decide) (by decide))
  obtain ⟨p, hp⟩ : ∃ p, p = Pk.told l := ⟨_, rfl⟩
  have hseq : num ((l.drop 1).take 2) = p.seq := by rw [hp]; rfl
  have htime : num ((l.drop 3).take 4) = p.time := by rw [hp]; rfl
  have ht : ba (l.drop 8) = p.t := by rw [hp]; rfl
  have hpf : p.f = (at8 l 0 % 2 == 1) := by rw [hp]; rfl
  have hpe : p.e = (at8 l 0 / 2 % 2 == 1) := by rw [hp]; rfl
  have hpk : p.k = (at8 l 0 / 4 % 2 == 1) := by rw [hp]; rfl
  have hext : (ba l).extract 8 (ba l).size = p.t := by rw [ba_drop, ht]
  rw [hseq] at HN1
  rw [htime] at HN2
  rw [← hp]
  obtain ⟨c, hc⟩ : ∃ c, c = p.chk := ⟨_, rfl⟩
  have HCK := @id (Hid (∀ w : World, Calls Tryz.prog 118 #[p.val] w fun e w' => e = .returned (.int .i64 c) ∧ w' = w.alloc (.cells p.cells 89))) (fun w => by rw [hc]; exact refCheck_any p w)
  rw [← hc]
  clear hc hp hseq htime ht hform hl h8
  generalize at8 l 0 = a0 at *
  generalize at8 l 7 = a7 at *
  obtain ⟨seq, time, f, e, k, t⟩ := p
  simp only [Pk.val, Pk.cells] at *
  have u1 : (((a0 : Int) - 128).tmod 2 == 1) = f := by
    rw [hpf]
    have : a0 = 128 ∨ a0 = 129 ∨ a0 = 130 ∨ a0 = 131 ∨ a0 = 132 ∨ a0 = 133 ∨ a0 = 134 ∨ a0 = 135 := by omega
    rcases this with rfl | rfl | rfl | rfl | rfl | rfl | rfl | rfl <;> decide
  have u2 : ((IntKind.i64.wrap (((a0 : Int) - 128).tdiv 2)).tmod 2 == 1) = e := by
    rw [hpe]
    have : a0 = 128 ∨ a0 = 129 ∨ a0 = 130 ∨ a0 = 131 ∨ a0 = 132 ∨ a0 = 133 ∨ a0 = 134 ∨ a0 = 135 := by omega
    rcases this with rfl | rfl | rfl | rfl | rfl | rfl | rfl | rfl <;> decide
  have u3 : (IntKind.i64.wrap (((a0 : Int) - 128).tdiv 4) == 1) = k := by
    rw [hpk]
    have : a0 = 128 ∨ a0 = 129 ∨ a0 = 130 ∨ a0 = 131 ∨ a0 = 132 ∨ a0 = 133 ∨ a0 = 134 ∨ a0 = 135 := by omega
    rcases this with rfl | rfl | rfl | rfl | rfl | rfl | rfl | rfl <;> decide
  have hA' : ¬ (a0 : Int) < 128 := by omega
  have hB' : ¬ (135 : Int) < a0 := by omega
  clear hpf hpe hpk hh1 hh2
  cases hcz : (c == 0)
  · have hcn : (c != 0) = true := by simp at hcz; simp [hcz]
    simp only [Bool.false_eq_true, if_false, Pk.zero]
    go_enter Tryz.func73, Tryz.ntmps73
    go_wp2_with fail
    go_region_with (first | (go_at_call_of 117 (Value.int IntKind.i64 2); refine (HN1.out _).mono ?_; rintro e w' ⟨rfl, rfl⟩) | (go_at_call_of 117 (Value.int IntKind.i64 4); refine (HN2.out _).mono ?_; rintro e w' ⟨rfl, rfl⟩))
    all_goals
      go_wp2_with (go_at_call 118; refine (HCK.out _).mono ?_; rintro e w' ⟨rfl, rfl⟩)
      exact bodyPost_ret (v := .tuple #[.agg #[.int .i64 0, .int .i64 0, .bool false, .bool false, .bool false, .string ByteArray.empty], .int .i64 c]) (by simp [results, Tryz.results73, go_sem]; rfl) rfl ⟨rfl, by go_grown⟩
  · have hc0 : c = 0 := by simpa using hcz
    subst hc0
    clear hcz
    simp only [if_true]
    go_enter Tryz.func73, Tryz.ntmps73
    go_wp2_with fail
    go_region_with (first | (go_at_call_of 117 (Value.int IntKind.i64 2); refine (HN1.out _).mono ?_; rintro e w' ⟨rfl, rfl⟩) | (go_at_call_of 117 (Value.int IntKind.i64 4); refine (HN2.out _).mono ?_; rintro e w' ⟨rfl, rfl⟩))
    all_goals
      go_wp2_with (go_at_call 118; refine (HCK.out _).mono ?_; rintro e w' ⟨rfl, rfl⟩)
      exact bodyPost_ret (v := .tuple #[.agg #[.int .i64 seq, .int .i64 time, .bool f, .bool e, .bool k, .string t], .int .i64 0]) (by simp [results, Tryz.results73, go_sem]) rfl ⟨rfl, by go_grown⟩

theorem packetOf_any (l : List UInt8) (w : World) :
    Calls Tryz.prog 73 #[.string (ba l)] w fun e w' => e = .returned (.tuple #[(Pk.dec l).1.val, .int .i64 (Pk.dec l).2]) ∧ Below w.heap.size w w' := by
  unfold Pk.dec
  cases hform : formB l
  · exact packetOf_no l w hform
  · have h := packetOf_form l w hform
    cases hc : ((Pk.told l).chk == 0)
    · rw [hc] at h
      simpa using h
    · rw [hc] at h
      have : (Pk.told l).chk = 0 := by simpa using hc
      rw [this] at h
      simpa using h

end Go.Proofs.YtnpaejknoipicafGreat

namespace Go.Proofs.YtnpaejknoipicafGreat
open Go.RowKit

theorem Tryz.infoInt : (Tryz.prog.info? 3).map (fun i => (i.zero, i.size, i.bytes)) = some (some (.int .i64 0), 1, 8) := by kernel_rfl

end Go.Proofs.YtnpaejknoipicafGreat

namespace Go.Proofs.YtnpaejknoipicafGreat
open Go.RowKit

theorem Cn.bet_isN (n : Int) : Cn.betB n 65536 1000000000 = Cn.isNB n := by
  simp [Cn.betB, Cn.isNB]

set_option maxHeartbeats 400000 in
theorem refIsN_any (n : Int) (w : World) :
    Calls Tryz.prog 70 #[.int .i64 n] w fun e w' => e = .returned (.bool (Cn.isNB n)) ∧ w = w' := by
  rw [← Cn.bet_isN]
  go_enter Tryz.func70, Tryz.ntmps70
  go_wp2_with (go_at_call 50; refine (between_any _ _ _ _).mono ?_; rintro e w' ⟨rfl, rfl⟩)
  go_ret
  exact ⟨rfl, rfl⟩

end Go.Proofs.YtnpaejknoipicafGreat

namespace Go.Proofs.YtnpaejknoipicafGreat
open Go.RowKit

theorem Cn.raw_other (last seq : Int) (h1 : 0 ≤ seq) (h2 : seq ≤ 65535) :
    (last - last % 65536 + seq < last - 32767 → Cn.raw last seq = last - last % 65536 + seq + 65536) ∧
    (¬ last - last % 65536 + seq < last - 32767 → last + 32768 < last - last % 65536 + seq → Cn.raw last seq = last - last % 65536 + seq - 65536) ∧
    (¬ last - last % 65536 + seq < last - 32767 → ¬ last + 32768 < last - last % 65536 + seq → Cn.raw last seq = last - last % 65536 + seq) := by
  unfold Cn.raw; refine ⟨?_, ?_, ?_⟩ <;> (split <;> omega)

set_option maxHeartbeats 1000000 in
theorem unwrapOf_any (last seq : Int) (w : World) :
    Calls Tryz.prog 74 #[.int .i64 last, .int .i64 seq] w fun e w' => e = .returned (.tuple #[.int .i64 (Cn.uwN last seq), .int .i64 (Cn.uwE last seq)]) ∧ w = w' := by
  cases hb : Cn.isNB last
  · have hno : Cn.okB last seq = false := by simp [Cn.okB, hb]
    obtain ⟨hE, hN⟩ := Cn.uw_no hno
    rw [hE, hN]
    clear hE hN hno
    go_enter Tryz.func74, Tryz.ntmps74
    go_wp2_with (first
      | (go_at_call 70; refine (refIsN_any _ _).mono ?_; rintro e w' ⟨rfl, rfl⟩)
      | (go_at_call 50; refine (between_any _ _ _ _).mono ?_; rintro e w' ⟨rfl, rfl⟩))
    go_ret2
    exact ⟨rfl, rfl⟩
  · cases hs : Cn.betB seq 0 65535
    · have hno : Cn.okB last seq = false := by
        simp only [Cn.betB, Bool.and_eq_false_iff] at hs
        rcases hs with hs | hs <;> simp [Cn.okB, hs]
      obtain ⟨hE, hN⟩ := Cn.uw_no hno
      rw [hE, hN]
      clear hE hN hno
      go_enter Tryz.func74, Tryz.ntmps74
      go_wp2_with (first
        | (go_at_call 70; refine (refIsN_any _ _).mono ?_; rintro e w' ⟨rfl, rfl⟩)
        | (go_at_call 50; refine (between_any _ _ _ _).mono ?_; rintro e w' ⟨rfl, rfl⟩))
      go_ret2
      exact ⟨rfl, rfl⟩
    · obtain ⟨hr1, hr2⟩ := Cn.isNB_iff.1 hb
      have hsb : 0 ≤ seq ∧ seq ≤ 65535 := by simpa [Cn.betB] using hs
      obtain ⟨hs1, hs2⟩ := hsb
      obtain ⟨ho1, ho2, ho3⟩ := Cn.raw_other last seq hs1 hs2
      have key : ∀ x, Cn.raw last seq = x → (Cn.isNB x = true → Cn.uwE last seq = 0 ∧ Cn.uwN last seq = x) ∧ (Cn.isNB x = false → Cn.uwE last seq = 3 ∧ Cn.uwN last seq = 0) := by
        intro x hx
        refine ⟨fun h => ?_, fun h => ?_⟩
        · have := Cn.uw_ok (last := last) (seq := seq) (by simp [Cn.okB, hb, hs1, hs2, hx, h])
          rw [hx] at this; exact this
        · exact Cn.uw_no (last := last) (seq := seq) (by simp [Cn.okB, hx, h])
      have fin : ∀ x, x = last - last % 65536 + seq → (x < last - 32767 → Cn.raw last seq = x + 65536) ∧ (¬ x < last - 32767 → last + 32768 < x → Cn.raw last seq = x - 65536) ∧ (¬ x < last - 32767 → ¬ last + 32768 < x → Cn.raw last seq = x) := by
        intro x hx; subst hx; exact ⟨ho1, ho2, ho3⟩
      by_cases hc1 : last - last % 65536 + seq < last - 32767
      · have hk := key _ (ho1 hc1)
        clear ho1 ho2 ho3 fin key
        cases hb2 : Cn.isNB (last - last % 65536 + seq + 65536)
        · obtain ⟨hE, hN⟩ := hk.2 hb2
          rw [hE, hN]
          clear hE hN hk
          go_enter Tryz.func74, Tryz.ntmps74
          go_wp2_with (first
            | (go_at_call 70; refine (refIsN_any _ _).mono ?_; rintro e w' ⟨rfl, rfl⟩)
            | (go_at_call 50; refine (between_any _ _ _ _).mono ?_; rintro e w' ⟨rfl, rfl⟩))
          go_ret2
          exact ⟨rfl, rfl⟩
        · obtain ⟨hE, hN⟩ := hk.1 hb2
          rw [hE, hN]
          clear hE hN hk
          go_enter Tryz.func74, Tryz.ntmps74
          go_wp2_with (first
            | (go_at_call 70; refine (refIsN_any _ _).mono ?_; rintro e w' ⟨rfl, rfl⟩)
            | (go_at_call 50; refine (between_any _ _ _ _).mono ?_; rintro e w' ⟨rfl, rfl⟩))
          go_ret2
          exact ⟨rfl, rfl⟩
      · by_cases hc2 : last + 32768 < last - last % 65536 + seq
        · have hk := key _ (ho2 hc1 hc2)
          clear ho1 ho2 ho3 fin key
          cases hb2 : Cn.isNB (last - last % 65536 + seq - 65536)
          · obtain ⟨hE, hN⟩ := hk.2 hb2
            rw [hE, hN]
            clear hE hN hk
            go_enter Tryz.func74, Tryz.ntmps74
            go_wp2_with (first
              | (go_at_call 70; refine (refIsN_any _ _).mono ?_; rintro e w' ⟨rfl, rfl⟩)
              | (go_at_call 50; refine (between_any _ _ _ _).mono ?_; rintro e w' ⟨rfl, rfl⟩))
            go_ret2
            exact ⟨rfl, rfl⟩
          · obtain ⟨hE, hN⟩ := hk.1 hb2
            rw [hE, hN]
            clear hE hN hk
            go_enter Tryz.func74, Tryz.ntmps74
            go_wp2_with (first
              | (go_at_call 70; refine (refIsN_any _ _).mono ?_; rintro e w' ⟨rfl, rfl⟩)
              | (go_at_call 50; refine (between_any _ _ _ _).mono ?_; rintro e w' ⟨rfl, rfl⟩))
            go_ret2
            exact ⟨rfl, rfl⟩
        · have hk := key _ (ho3 hc1 hc2)
          clear ho1 ho2 ho3 fin key
          cases hb2 : Cn.isNB (last - last % 65536 + seq)
          · obtain ⟨hE, hN⟩ := hk.2 hb2
            rw [hE, hN]
            clear hE hN hk
            go_enter Tryz.func74, Tryz.ntmps74
            go_wp2_with (first
              | (go_at_call 70; refine (refIsN_any _ _).mono ?_; rintro e w' ⟨rfl, rfl⟩)
              | (go_at_call 50; refine (between_any _ _ _ _).mono ?_; rintro e w' ⟨rfl, rfl⟩))
            go_ret2
            exact ⟨rfl, rfl⟩
          · obtain ⟨hE, hN⟩ := hk.1 hb2
            rw [hE, hN]
            clear hE hN hk
            go_enter Tryz.func74, Tryz.ntmps74
            go_wp2_with (first
              | (go_at_call 70; refine (refIsN_any _ _).mono ?_; rintro e w' ⟨rfl, rfl⟩)
              | (go_at_call 50; refine (between_any _ _ _ _).mono ?_; rintro e w' ⟨rfl, rfl⟩))
            go_ret2
            exact ⟨rfl, rfl⟩

end Go.Proofs.YtnpaejknoipicafGreat

namespace Go.Proofs.YtnpaejknoipicafGreat
open Go.RowKit

set_option maxHeartbeats 8000000 in
set_option maxRecDepth 100000 in
theorem refCheckTrack_any (t : Tr) (hv bv gv ov : Value) (w : World) (hr : TrIn (fun _ => True) w hv bv gv ov t) :
    Calls Tryz.prog 25 #[.agg #[.int .i64 t.last, .int .i64 t.next, hv, bv, .int .i64 t.first, gv, ov]] w fun e w' => e = .returned (.int .i64 t.chk) ∧ Below w.heap.size w w' := by
  obtain ⟨ha, hc, ba0, bc, ga, gc, oa, oc, eh, eb, eg, eo⟩ := hr.slices
  obtain ⟨nh, hnh⟩ : ∃ n, n = t.h.length := ⟨_, rfl⟩
  obtain ⟨no, hno⟩ : ∃ n, n = t.o.length := ⟨_, rfl⟩
  obtain ⟨ng, hng⟩ : ∃ n, n = t.L.length := ⟨_, rfl⟩
  obtain ⟨nO, hnO⟩ : ∃ n, n = t.O.length := ⟨_, rfl⟩
  rw [← hnh] at eh
  rw [← hno] at eb
  rw [← hng] at eg
  rw [← hnO] at eo
  obtain ⟨last, hla⟩ : ∃ x, x = t.last := ⟨_, rfl⟩
  obtain ⟨next, hne⟩ : ∃ x, x = t.next := ⟨_, rfl⟩
  obtain ⟨first, hfi⟩ : ∃ x, x = t.first := ⟨_, rfl⟩
  obtain ⟨NB, hNB⟩ : ∃ b, b = Cn.isNB last := ⟨_, rfl⟩
  obtain ⟨BE, hBE⟩ : ∃ b, b = bchk next t.h := ⟨_, rfl⟩
  obtain ⟨OE, hOE⟩ : ∃ b, b = ochk t.o := ⟨_, rfl⟩
  obtain ⟨SE, hSE⟩ : ∃ b, b = stchk first t.L t.O := ⟨_, rfl⟩
  obtain ⟨C, hC⟩ : ∃ b, b = t.chk := ⟨_, rfl⟩
  have HC : Hid (C = if ¬ last = 0 ∧ NB = false then 3 else if BE = 0 then (if OE = 0 then (if SE = 0 then (if (last == 0) = (next == 0) then 0 else 4) else SE) else OE) else BE) := by
    show C = _
    rw [hC, hNB, hBE, hOE, hSE, hla, hne, hfi]; rfl
  have HIN : Hid (∀ W : World, Calls Tryz.prog 70 #[.int .i64 last] W fun e w' => e = .returned (.bool NB) ∧ W = w') := fun W => by rw [hNB]; exact refIsN_any last W
  have HBC : Hid (∀ W : World, Below w.heap.size w W → Calls Tryz.prog 71 #[.agg #[.int .i64 next, hv]] W fun e w' => e = .returned (.int .i64 BE) ∧ Below W.heap.size W w') := fun W hW => by
    rw [hBE]; exact refCheckBuffer_any next hv t.h W (hr.1.below hW).1 hr.1.2.1
  have HOC : Hid (∀ W : World, Below w.heap.size w W → Calls Tryz.prog 72 #[.agg #[bv]] W fun e w' => e = .returned (.int .i64 OE) ∧ Below W.heap.size W w') := fun W hW => by
    rw [hOE]; exact refCheckBuilder_any bv t.o W (hr.2.1.below hW).1 hr.2.1.2.1
  have HSC : Hid (∀ W : World, Below w.heap.size w W → Calls Tryz.prog 11 #[.agg #[.int .i64 first, gv, ov]] W fun e w' => e = .returned (.int .i64 SE) ∧ Below W.heap.size W w') := fun W hW => by
    rw [hSE]; exact refCheckStore_any (fun _ => True) first gv ov t.L t.O W (hr.2.2.1.below hW) (hr.2.2.2.below hW)
  rw [← hla, ← hne, ← hfi, ← hC]
  clear hla hne hfi hnh hno hng hnO hNB hBE hOE hSE hC hr
  subst eh eb eg eo
  obtain ⟨W0, hW0⟩ : ∃ W, W = w.alloc (.cells #[.int .i64 last, .int .i64 next, .slice ha nh hc, .slice ba0 no bc, .int .i64 first, .slice ga ng gc, .slice oa nO oc] 61) := ⟨_, rfl⟩
  have HS0 : Hid (Stay W0 (fun U => Blk U w.heap.size #[.int .i64 last, .int .i64 next, .slice ha nh hc, .slice ba0 no bc, .int .i64 first, .slice ga ng gc, .slice oa nO oc] 61 ∧ Below w.heap.size w U)) := by
    have hb : Below w.heap.size w W0 := by rw [hW0]; exact (Below.refl _ _).alloc (Nat.le_refl _) _
    exact (Blk.newE hW0).stay.and (below_stay hb hb.size)
  obtain ⟨y0, y1, y2, y3, y4, y5, y6⟩ := HS0.out.now.1.sevenc
  have BW : Hid (Below w.heap.size w W0) := HS0.out.now.2
  go_enter Tryz.func25, Tryz.ntmps25
  go_upto_region 1 with fail
  rw [← hW0]
  clear hW0
  by_cases h1 : ¬ last = 0 ∧ NB = false
  · have hc3 : Hid (C = 3) := by show C = _; rw [HC.out, if_pos h1]
    obtain ⟨h1a, h1b⟩ := h1
    subst h1b
    clear HS0 HBC HOC HSC HC
    go_wp2_with fail
    refine (HIN.out W0).mono ?_
    rintro e w1 ⟨rfl, rfl⟩
    go_wp2
    go_ret
    rw [hc3.out]
    exact ⟨rfl, BW.out⟩
  have HC2 : Hid (C = if BE = 0 then (if OE = 0 then (if SE = 0 then (if (last == 0) = (next == 0) then 0 else 4) else SE) else OE) else BE) := by show C = _; rw [HC.out, if_neg h1]
  have hcond : last = 0 ∨ NB = true := by
    by_cases h : last = 0
    · exact .inl h
    · right
      cases hb : NB
      · exact absurd ⟨h, hb⟩ h1
      · rfl
  clear HC h1
  go_cut [12] (fun s12 wc => s12 = .bool false ∧ wc = W0)
  case first =>
    by_cases h0 : last = 0
    · subst h0
      go_wp2_with fail
      go_meet
      case rel => exact ⟨rfl, rfl⟩
    · have h := hcond.resolve_left h0
      subst h
      go_wp2_with fail
      refine (HIN.out W0).mono ?_
      rintro e w1 ⟨rfl, rfl⟩
      go_wp2_with fail
      go_meet
      case rel => exact ⟨rfl, rfl⟩
  case rest =>
    obtain ⟨rfl, rfl⟩ := hcut
    clear HIN hcond
    go_wp2_with fail
    refine (HBC.out _ BW.out).mono ?_
    rintro e w1 ⟨rfl, b1⟩
    have HS1 := Stay.go HS0 b1
    clear b1 HS0 HBC BW y0 y1 y2 y3 y4 y5 y6
    have BW : Hid (Below w.heap.size w w1) := HS1.out.now.2
    by_cases h2 : BE = 0
    case neg =>
      have hc : Hid (C = BE) := by show C = _; rw [HC2.out, if_neg h2]
      clear HS1 HOC HSC HC2
      go_wp2
      go_ret
      rw [hc.out]
      exact ⟨rfl, BW.out⟩
    have HC3 : Hid (C = if OE = 0 then (if SE = 0 then (if (last == 0) = (next == 0) then 0 else 4) else SE) else OE) := by show C = _; rw [HC2.out, if_pos h2]
    subst h2
    obtain ⟨y0, y1, y2, y3, y4, y5, y6⟩ := HS1.out.now.1.sevenc
    clear HC2
    go_wp2_with fail
    refine (HOC.out _ BW.out).mono ?_
    rintro e w2 ⟨rfl, b2⟩
    have HS2 := Stay.go HS1 b2
    clear b2 HS1 HOC BW y0 y1 y2 y3 y4 y5 y6
    have BW : Hid (Below w.heap.size w w2) := HS2.out.now.2
    by_cases h3 : OE = 0
    case neg =>
      have hc : Hid (C = OE) := by show C = _; rw [HC3.out, if_neg h3]
      clear HS2 HSC HC3
      go_wp2
      go_ret
      rw [hc.out]
      exact ⟨rfl, BW.out⟩
    have HC4 : Hid (C = if SE = 0 then (if (last == 0) = (next == 0) then 0 else 4) else SE) := by show C = _; rw [HC3.out, if_pos h3]
    subst h3
    obtain ⟨y0, y1, y2, y3, y4, y5, y6⟩ := HS2.out.now.1.sevenc
    clear HC3
    go_wp2_with fail
    refine (HSC.out _ BW.out).mono ?_
    rintro e w3 ⟨rfl, b3⟩
    have HS3 := Stay.go HS2 b3
    clear b3 HS2 HSC BW y0 y1 y2 y3 y4 y5 y6
    have BW : Hid (Below w.heap.size w w3) := HS3.out.now.2
    by_cases h4 : SE = 0
    case neg =>
      have hc : Hid (C = SE) := by show C = _; rw [HC4.out, if_neg h4]
      clear HS3 HC4
      go_wp2
      go_ret
      rw [hc.out]
      exact ⟨rfl, BW.out⟩
    have HC5 : Hid (C = if (last == 0) = (next == 0) then 0 else 4) := by show C = _; rw [HC4.out, if_pos h4]
    subst h4
    obtain ⟨y0, y1, y2, y3, y4, y5, y6⟩ := HS3.out.now.1.sevenc
    clear HC4 HS3
    obtain ⟨B1, hB1⟩ : ∃ b, b = (last == 0) := ⟨_, rfl⟩
    obtain ⟨B2, hB2⟩ : ∃ b, b = (next == 0) := ⟨_, rfl⟩
    rw [← hB1, ← hB2] at HC5
    have q1 : (last == 0) = B1 := hB1.symm
    have q2 : (next == 0) = B2 := hB2.symm
    clear hB1 hB2
    cases B1 <;> cases B2
    all_goals
      go_wp2
      go_ret
      rw [HC5.out]
      exact ⟨rfl, BW.out⟩

set_option maxHeartbeats 16000000 in
set_option maxRecDepth 100000 in
theorem refFeedOf_in (S : Nat → Prop) (t : Tr) (s : List UInt8) (hv bv gv ov : Value) (w : World) (hr : TrIn S w hv bv gv ov t) (hS : ∀ g, w.heap.size ≤ g → S g) (hc0 : t.chk = 0) :
    Calls Tryz.prog 26 #[.agg #[.int .i64 t.last, .int .i64 t.next, hv, bv, .int .i64 t.first, gv, ov], .string (ba s)] w fun e w' => ∃ hv' bv' gv' ov', e = .returned (.tuple #[.agg #[.int .i64 (feedR t s).1.last, .int .i64 (feedR t s).1.next, hv', bv', .int .i64 (feedR t s).1.first, gv', ov'], .int .i64 (feedR t s).2.1, .int .i64 (feedR t s).2.2]) ∧ TrIn S w' hv' bv' gv' ov' (feedR t s).1 ∧ Below w.heap.size w w' := by
  obtain ⟨c1, c2, c3, c4, c5⟩ := Tr.chk_zero.1 hc0
  obtain ⟨M, hM⟩ : ∃ x, x = w.heap.size := ⟨_, rfl⟩
  obtain ⟨S0, hS0⟩ : ∃ P : Nat → Prop, P = fun g => S g ∧ g ≠ M ∧ g ≠ M + 1 := ⟨_, rfl⟩
  have mk0 : ∀ g, S g → g ≠ M → g ≠ M + 1 → S0 g := fun g h1 h2 h3 => by rw [hS0]; exact ⟨h1, h2, h3⟩
  have HS00 : Hid (∀ g, S0 g → S g ∧ g ≠ M ∧ g ≠ M + 1) := fun g h => by rw [hS0] at h; exact h
  obtain ⟨R, hR⟩ : ∃ R, R = feedR t s := ⟨_, rfl⟩
  obtain ⟨D, hD⟩ : ∃ D, D = (Pk.dec s).2 := ⟨_, rfl⟩
  obtain ⟨⟨ps, pt, pf, pe, pk, px⟩, hp⟩ : ∃ p, p = (Pk.dec s).1 := ⟨_, rfl⟩
  have hpc : D = 0 → (Pk.mk ps pt pf pe pk px).chk = 0 := fun h => by
    rcases Pk.dec_or s with ⟨_, h2⟩ | ⟨_, h2, _⟩
    · rw [← hD, h] at h2; cases h2
    · rw [hp]; exact h2
  obtain ⟨NE, hNE⟩ : ∃ e, e = numE t.last ⟨ps, pt, pf, pe, pk, px⟩ := ⟨_, rfl⟩
  obtain ⟨n, hn⟩ : ∃ e, e = numN t.last ⟨ps, pt, pf, pe, pk, px⟩ := ⟨_, rfl⟩
  have HBAD1 : Hid (¬ D = 0 → R = (Tr.zero, 0, D)) := fun h => by
    rw [hR]; unfold feedR; rw [← hD, if_neg h]
  have HBAD2 : Hid (D = 0 → ¬ NE = 0 → R = (Tr.zero, 0, NE)) := fun h h2 => by
    rw [hR]; unfold feedR; rw [← hD, if_pos h, ← hp, ← hNE, if_neg h2]
  have HSEQ : Hid (D = 0 → 0 ≤ ps ∧ ps ≤ 65535) := fun h => by
    obtain ⟨a, b, _⟩ := Pk.chk_ok (hpc h)
    exact ⟨a, b⟩
  have HL0 : Hid (t.last = 0 → NE = 0 ∧ n = ps + 65536) := fun h => by
    rw [hNE, hn]; unfold numE numN; rw [if_pos h, if_pos h]; exact ⟨rfl, rfl⟩
  have HLB : Hid (t.last = 0 ∨ 65536 ≤ t.last ∧ t.last ≤ 1000000000) := c1.imp id Cn.isNB_iff.1
  have HNB : Hid (D = 0 → NE = 0 → 65536 ≤ n ∧ n ≤ 1000000000) := fun h h2 => by
    rw [hn]; exact Cn.isNB_iff.1 (num_ok (hpc h) c1 (by rw [← hNE]; exact h2)).1
  have HUW : Hid (¬ t.last = 0 → ∀ W : World, Calls Tryz.prog 74 #[.int .i64 t.last, .int .i64 ps] W fun e w' => e = .returned (.tuple #[.int .i64 n, .int .i64 NE]) ∧ W = w') := fun h W => by
    have q := unwrapOf_any t.last ps W
    rw [hNE, hn]; unfold numE numN; rw [if_neg h, if_neg h]; exact q
  have HPO : Hid (∀ W : World, Calls Tryz.prog 73 #[.string (ba s)] W fun e w' => e = .returned (.tuple #[.agg #[.int .i64 ps, .int .i64 pt, .bool pf, .bool pe, .bool pk, .string px], .int .i64 D]) ∧ Below W.heap.size W w') := fun W => by
    have q := packetOf_any s W
    rw [← hp, ← hD] at q
    exact q
  have HGO : Hid (D = 0 → NE = 0 → ∃ N1 h1 o1, (∀ W : World, Below M w W → M + 2 ≤ W.heap.size → Calls Tryz.prog 75 #[.agg #[.int .i64 t.next, hv], .agg #[.int .i64 n, .int .i64 ps, .int .i64 pt, .bool pf, .bool pe, .bool pk, .string px]] W fun e w' => ∃ xa xn xc za zn zc, e = .returned (.tuple #[.agg #[.int .i64 N1, .slice xa xn xc], .slice za zn zc]) ∧ Hid (SlsIn S0 w' (.slice xa xn xc) h1) ∧ Hid (SlsIn S0 w' (.slice za zn zc) o1) ∧ Below W.heap.size W w') ∧
      (∀ (W : World) (xa : Option Addr) (xn xc : Nat) (za : Option Addr) (zn zc : Nat), Below M w W → M + 2 ≤ W.heap.size → SlsIn S0 W (.slice xa xn xc) h1 → SlsIn S0 W (.slice za zn zc) o1 → Calls Tryz.prog 76 #[.agg #[.int .i64 (max t.last n), .int .i64 N1, .slice xa xn xc, bv, .int .i64 t.first, gv, ov], .slice za zn zc] W fun e w' => ∃ la1 ne1 ha1 hn1 hc1 oa1 on1 oc1 fi1 ga1 gn1 gc1 pa1 pn1 pc1, e = .returned (.tuple #[.agg #[.int .i64 la1, .int .i64 ne1, .slice ha1 hn1 hc1, .slice oa1 on1 oc1, .int .i64 fi1, .slice ga1 gn1 gc1, .slice pa1 pn1 pc1], .int .i64 R.2.1, .int .i64 R.2.2]) ∧ Hid (la1 = R.1.last ∧ ne1 = R.1.next ∧ fi1 = R.1.first ∧ gn1 = R.1.L.length) ∧ Hid (TrIn S0 w' (.slice ha1 hn1 hc1) (.slice oa1 on1 oc1) (.slice ga1 gn1 gc1) (.slice pa1 pn1 pc1) R.1) ∧ Below W.heap.size W w')) := fun h h2 => by
    have hx : (Sk.mk n ⟨ps, pt, pf, pe, pk, px⟩).chk = 0 := by rw [hn]; exact num_slot (hpc h) c1 (by rw [← hNE]; exact h2)
    obtain ⟨i1, i2, i3, i4, i5, i6, i7⟩ := put_inv c2 hx
    have hRe : R = tkN (putF t.next t.h ⟨n, ⟨ps, pt, pf, pe, pk, px⟩⟩).2.2 (t.buf (max t.last n) (putF t.next t.h ⟨n, ⟨ps, pt, pf, pe, pk, px⟩⟩).1 (putF t.next t.h ⟨n, ⟨ps, pt, pf, pe, pk, px⟩⟩).2.1, 0) := by
      rw [hR]; unfold feedR; rw [← hD, if_pos h, ← hp, ← hNE, if_pos h2, ← hn]; rfl
    have hlo : (putF t.next t.h ⟨n, ⟨ps, pt, pf, pe, pk, px⟩⟩).2.2.length ≤ 100 := put_olen c2
    refine ⟨(putF t.next t.h ⟨n, ⟨ps, pt, pf, pe, pk, px⟩⟩).1, (putF t.next t.h ⟨n, ⟨ps, pt, pf, pe, pk, px⟩⟩).2.1, (putF t.next t.h ⟨n, ⟨ps, pt, pf, pe, pk, px⟩⟩).2.2, fun W hW hWs => ?_, fun W xa xn xc za zn zc hW hWs q1 q2 => ?_⟩
    · refine (putOf_any t.next hv t.h ⟨n, ⟨ps, pt, pf, pe, pk, px⟩⟩ W (hr.1.below (by rw [← hM]; exact hW)).1 c2 hx).mono ?_
      rintro e w' ⟨hv', ov', rfl, f1, f2, f3, f4, f5⟩
      obtain ⟨pa, pc, e2⟩ := f1.len
      obtain ⟨qa, qc, e3⟩ := f2.len
      have l1 := i1.2.1
      refine ⟨pa, _, pc, qa, _, qc, by rw [e2, e3], ?_, ?_, f3⟩
      · rw [← e2]
        refine SlsIn.of f1 (by omega) fun g hg h0 => ?_
        rcases f4 h0 g hg with ⟨hg', h0'⟩ | hg'
        · obtain ⟨u1, u2⟩ := hr.1.2.2 g hg' h0'
          exact mk0 g u1 (by omega) (by omega)
        · exact mk0 g (hS g (by omega)) (by omega) (by omega)
      · rw [← e3]
        refine SlsIn.of f2 (by omega) fun g hg _ => ?_
        have := f5 g hg
        exact mk0 g (hS g (by omega)) (by omega) (by omega)
    · have hrW : TrIn S0 W hv bv gv ov t := ((hr.mono (S' := fun g => S g ∧ g < M) fun g h hs => ⟨hs, by rw [hM]; exact h⟩).below (by rw [← hM]; exact hW)).mono fun g _ h => mk0 g h.1 (Nat.ne_of_lt h.2) (by have := h.2; omega)
      refine (taken_in S0 (t.buf (max t.last n) _ _) _ bv gv ov _ _ W ⟨q1, hrW.2.1, hrW.2.2.1, hrW.2.2.2⟩ (fun g hg => mk0 g (hS g (by omega)) (by omega) (by omega)) ⟨c3, c4⟩ (q2.mono fun _ _ _ => trivial) (fun y hy => ?_) hlo).mono ?_
      · rcases (i3 y hy).1 with e | e
        · rw [e]; exact hx
        · exact c2.2.2.1 y e
      · rintro e w' ⟨x1, x2, x3, x4, rfl, q, b⟩
        rw [← hRe] at q ⊢
        obtain ⟨a1, c1, a2, c2, a3, c3, a4, c4, e1, e2, e3, e4⟩ := q.slices
        subst e1 e2 e3 e4
        exact ⟨_, _, _, _, _, _, _, _, _, _, _, _, _, _, _, rfl, ⟨rfl, rfl, rfl, rfl⟩, q, b⟩
  rw [← hR]
  obtain ⟨ha, hc, ba0, bc, ga, gc, oa, oc, eh, eb, eg, eo⟩ := hr.slices
  obtain ⟨nh, hnh⟩ : ∃ n, n = t.h.length := ⟨_, rfl⟩
  obtain ⟨no, hno⟩ : ∃ n, n = t.o.length := ⟨_, rfl⟩
  obtain ⟨ng, hng⟩ : ∃ n, n = t.L.length := ⟨_, rfl⟩
  obtain ⟨nO, hnO⟩ : ∃ n, n = t.O.length := ⟨_, rfl⟩
  rw [← hnh] at eh
  rw [← hno] at eb
  rw [← hng] at eg
  rw [← hnO] at eo
  obtain ⟨last, hla⟩ : ∃ x, x = t.last := ⟨_, rfl⟩
  obtain ⟨next, hne⟩ : ∃ x, x = t.next := ⟨_, rfl⟩
  obtain ⟨first, hfi⟩ : ∃ x, x = t.first := ⟨_, rfl⟩
  rw [← hla] at HL0 HLB HUW
  rw [← hla, ← hne, ← hfi] at HGO
  rw [← hla, ← hne, ← hfi]
  obtain ⟨V, hV⟩ : ∃ V, V = (w.alloc (.cells #[.int .i64 last, .int .i64 next, .slice ha nh hc, .slice ba0 no bc, .int .i64 first, .slice ga ng gc, .slice oa nO oc] 61)).alloc (.cells #[.int .i64 0, .int .i64 0, .slice none 0 0, .slice none 0 0, .int .i64 0, .slice none 0 0, .slice none 0 0] 61) := ⟨_, rfl⟩
  have HBV : Hid (Below M w V) := by show Below M w V; rw [hV, hM]; exact ((Below.refl _ w).alloc (Nat.le_refl _) _).alloc (by simp) _
  have HMV : Hid (Blk V M #[.int .i64 last, .int .i64 next, .slice ha nh hc, .slice ba0 no bc, .int .i64 first, .slice ga ng gc, .slice oa nO oc] 61) := by
    have := (Blk.new w #[.int .i64 last, .int .i64 next, .slice ha nh hc, .slice ba0 no bc, .int .i64 first, .slice ga ng gc, .slice oa nO oc] 61).alloc (.cells #[.int .i64 0, .int .i64 0, .slice none 0 0, .slice none 0 0, .int .i64 0, .slice none 0 0, .slice none 0 0] 61)
    rw [← hV, ← hM] at this
    exact this
  have HZV : Hid (Blk V (M + 1) #[.int .i64 0, .int .i64 0, .slice none 0 0, .slice none 0 0, .int .i64 0, .slice none 0 0, .slice none 0 0] 61) := by
    have := Blk.new (w.alloc (.cells #[.int .i64 last, .int .i64 next, .slice ha nh hc, .slice ba0 no bc, .int .i64 first, .slice ga ng gc, .slice oa nO oc] 61)) #[.int .i64 0, .int .i64 0, .slice none 0 0, .slice none 0 0, .int .i64 0, .slice none 0 0, .slice none 0 0] 61
    rw [World.size_alloc, ← hV, ← hM] at this
    exact this
  have hMs : M + 2 ≤ V.heap.size := by have := HZV.out.lt; omega
  have HMe : Hid (M = w.heap.size) := hM
  rw [← hM]
  clear hS hS0 mk0 hR hD hp hpc hNE hn hla hne hfi hnh hno hng hnO hr hc0 c1 c2 c3 c4 c5
  subst eh eb eg eo
  go_enter Tryz.func26, Tryz.ntmps26
  go_wp2_with fail
  rw [← hV, ← hM]
  clear hV hM
  refine (HPO.out V).mono ?_
  rintro e w1 ⟨rfl, b1⟩
  obtain ⟨P, hP⟩ : ∃ P, P = w1.heap.size := ⟨_, rfl⟩
  obtain ⟨V1, hV1⟩ : ∃ W, W = w1.alloc (.cells #[.int .i64 ps, .int .i64 pt, .bool pf, .bool pe, .bool pk, .string px] 89) := ⟨_, rfl⟩
  have b2 : Below V.heap.size V V1 := by rw [hV1]; exact b1.alloc b1.size _
  have HB1 : Hid (Below M w V1) := HBV.out.trans (b2.mono (by omega))
  have HM1 : Hid (Blk V1 M #[.int .i64 last, .int .i64 next, .slice ha nh hc, .slice ba0 no bc, .int .i64 first, .slice ga ng gc, .slice oa nO oc] 61) := HMV.out.below b2 HMV.out.lt
  have HZ1 : Hid (Blk V1 (M + 1) #[.int .i64 0, .int .i64 0, .slice none 0 0, .slice none 0 0, .int .i64 0, .slice none 0 0, .slice none 0 0] 61) := HZV.out.below b2 HZV.out.lt
  have HP1 : Hid (Blk V1 P #[.int .i64 ps, .int .i64 pt, .bool pf, .bool pe, .bool pk, .string px] 89) := by show Blk _ _ _ _; rw [hP]; exact Blk.newE hV1
  have hPM : M + 2 ≤ P := by have := b1.size; omega
  clear b1 b2 HPO HBV HMV HZV
  by_cases hD0 : D = 0
  case neg =>
    have HRX' : Hid (R = (Tr.zero, 0, D)) := HBAD1.out hD0
    clear HBAD1 HBAD2 HSEQ HL0 HLB HNB HUW HGO HM1 HP1
    obtain ⟨y0, y1, y2, y3, y4, y5, y6⟩ := HZ1.out.sevenc
    have fM := HZ1.out.free
    have lM := HZ1.out.lt
    obtain ⟨W7, hW7⟩ : ∃ W, W = ((((((V1.setCell ⟨M + 1, 0, none⟩ (.int .i64 0)).setCell ⟨M + 1, 1, none⟩ (.int .i64 0)).setCell ⟨M + 1, 2, none⟩ (.slice none 0 0)).setCell ⟨M + 1, 3, none⟩ (.slice none 0 0)).setCell ⟨M + 1, 4, none⟩ (.int .i64 0)).setCell ⟨M + 1, 5, none⟩ (.slice none 0 0)).setCell ⟨M + 1, 6, none⟩ (.slice none 0 0) := ⟨_, rfl⟩
    have HZ7 : Hid (Blk W7 (M + 1) #[.int .i64 0, .int .i64 0, .slice none 0 0, .slice none 0 0, .int .i64 0, .slice none 0 0, .slice none 0 0] 61) := by
      have := ((((((HZ1.out.set 0 (.int .i64 0)).set 1 (.int .i64 0)).set 2 (.slice none 0 0)).set 3 (.slice none 0 0)).set 4 (.int .i64 0)).set 5 (.slice none 0 0)).set 6 (.slice none 0 0)
      rw [hW7]; simpa [Hid] using this
    have HB7 : Hid (Below M w W7) := by
      show Below _ _ _
      rw [hW7]
      exact seven_belowR HB1.out (by omega) _ _ _ _ _ _ _
    clear HZ1 HB1
    go_upto_region 3 with fail
    rw [← hV1]
    clear hV1
    go_wp2
    rw [← hW7]
    clear hW7 y0 y1 y2 y3 y4 y5 y6 fM lM
    obtain ⟨y0, y1, y2, y3, y4, y5, y6⟩ := HZ7.out.sevenc
    refine bodyPost_ret (v := .tuple #[.agg #[.int .i64 0, .int .i64 0, .slice none 0 0, .slice none 0 0, .int .i64 0, .slice none 0 0, .slice none 0 0], .int .i64 0, .int .i64 D]) (by simp [results, Tryz.results26, go_sem, y0, y1, y2, y3, y4, y5, y6]) rfl ?_
    rw [HRX'.out]
    exact ⟨_, _, _, _, rfl, TrIn.zero _ _, HB7.out⟩
  have hps := HSEQ.out hD0
  clear HBAD1 HSEQ
  have HBAD2' : Hid (¬ NE = 0 → R = (Tr.zero, 0, NE)) := HBAD2.out hD0
  have HNB' : Hid (NE = 0 → 65536 ≤ n ∧ n ≤ 1000000000) := HNB.out hD0
  have HGO' := HGO.out hD0
  have HGO2 : Hid _ := HGO'
  clear HBAD2 HNB HGO HGO'
  subst hD0
  obtain ⟨y0, y1, y2, y3, y4, y5, y6⟩ := HM1.out.sevenc
  obtain ⟨z0, z1, z2, z3, z4, z5⟩ := HP1.out.sixq
  have hw1 : IntKind.i64.wrap (ps + 65536) = ps + 65536 := by rw [IntKind.wrap_i64]; omega
  go_upto_region 5 with fail
  rw [← hV1]
  try rw [← hP]
  clear hV1 hP
  by_cases hl0 : last = 0
  · obtain ⟨e1, e2⟩ := HL0.out hl0
    have hng : ¬ (0 : Int) < last := by omega
    have hnb := HNB'.out e1
    have HG : Hid _ := HGO2.out e1
    clear HL0 HLB HNB' HUW HBAD2' HGO2
    have hgt : last < n := by omega
    rw [← e2]
    clear hl0 e1 e2
    have hmx : max last n = n := by omega
    obtain ⟨N1, h1, o1, HPUT0, HTK0⟩ := HG.out
    rw [hmx] at HTK0
    have fM := HM1.out.free
    have lM := HM1.out.lt
    obtain ⟨V2, hV2⟩ : ∃ W, W = V1.setCell ⟨M, 0, none⟩ (.int .i64 n) := ⟨_, rfl⟩
    have hk2 : Kept [M] V1 V2 := by rw [hV2]; exact (Kept.refl [M] V1).setCell (p := ⟨M, 0, none⟩) (by simp) _
    have HM2 : Hid (Blk V2 M #[.int .i64 n, .int .i64 next, .slice ha nh hc, .slice ba0 no bc, .int .i64 first, .slice ga ng gc, .slice oa nO oc] 61) := by
      have := HM1.out.set 0 (.int .i64 n)
      rw [hV2]; simpa [Hid] using this
    have HZ2 : Hid (Blk V2 (M + 1) #[.int .i64 0, .int .i64 0, .slice none 0 0, .slice none 0 0, .int .i64 0, .slice none 0 0, .slice none 0 0] 61) := HZ1.out.kept hk2 (by simp)
    have HP2 : Hid (Blk V2 P #[.int .i64 ps, .int .i64 pt, .bool pf, .bool pe, .bool pk, .string px] 89) := HP1.out.kept hk2 (by simp; omega)
    have HB2 : Hid (Below M w V2) := HB1.out.trans (hk2.toBelow (by omega) (by simp))
    clear hk2 HM1 HZ1 HP1 HB1
    go_upto_region 11 with fail
    rw [← hV2]
    clear hV2 y0 y1 y2 y3 y4 y5 y6 z0 z1 z2 z3 z4 z5 fM lM
    obtain ⟨V1', hV1'⟩ : ∃ W, W = V2 := ⟨_, rfl⟩
    obtain ⟨y0, y1, y2, y3, y4, y5, y6⟩ := HM2.out.sevenc
    obtain ⟨z0, z1, z2, z3, z4, z5⟩ := HP2.out.sixq
    have HPUT : Hid _ := HPUT0
    have HTK : Hid _ := HTK0
    clear HPUT0 HTK0 HG
    go_wp2_with fail
    refine (HPUT.out V2 HB2.out (by have := HZ2.out.lt; omega)).mono ?_
    rintro e w3 ⟨xa, xn, xc, za, zn, zc, rfl, X1, X2, b3⟩
    have HB3 : Hid (Below M w w3) := HB2.out.trans (b3.mono (by have := HB2.out.size; have := HM2.out.lt; omega))
    have HM3 : Hid (Blk w3 M #[.int .i64 n, .int .i64 next, .slice ha nh hc, .slice ba0 no bc, .int .i64 first, .slice ga ng gc, .slice oa nO oc] 61) := HM2.out.below b3 HM2.out.lt
    have HZ3 : Hid (Blk w3 (M + 1) #[.int .i64 0, .int .i64 0, .slice none 0 0, .slice none 0 0, .int .i64 0, .slice none 0 0, .slice none 0 0] 61) := HZ2.out.below b3 HZ2.out.lt
    clear b3 HB2 HM2 HZ2 HP2 HPUT y0 y1 y2 y3 y4 y5 y6 z0 z1 z2 z3 z4 z5
    obtain ⟨V3, hV3⟩ : ∃ W, W = w3.alloc (.cells #[.int .i64 N1, .slice xa xn xc] 57) := ⟨_, rfl⟩
    have ba3 : Below w3.heap.size w3 V3 := by rw [hV3]; exact (Below.refl _ _).alloc (Nat.le_refl _) _
    have kM := HM3.out.below ba3 HM3.out.lt
    have kB := Blk.newE hV3
    have b0 := kB.cell (j := 0) (u := .int .i64 N1) rfl
    have b1 := kB.cell (j := 1) (u := .slice xa xn xc) rfl
    have kZ := HZ3.out.below ba3 HZ3.out.lt
    obtain ⟨V4, hV4⟩ : ∃ W, W = (V3.setCell ⟨M, 1, none⟩ (.int .i64 N1)).setCell ⟨M, 2, none⟩ (.slice xa xn xc) := ⟨_, rfl⟩
    have hk4 : Kept [M] V3 V4 := by rw [hV4]; exact ((Kept.refl [M] V3).setCell (p := ⟨M, 1, none⟩) (by simp) _).setCell (p := ⟨M, 2, none⟩) (by simp) _
    have HM4 : Hid (Blk V4 M #[.int .i64 n, .int .i64 N1, .slice xa xn xc, .slice ba0 no bc, .int .i64 first, .slice ga ng gc, .slice oa nO oc] 61) := by
      have := (kM.set 1 (.int .i64 N1)).set 2 (.slice xa xn xc)
      rw [hV4]; simpa [Hid] using this
    have HZ4 : Hid (Blk V4 (M + 1) #[.int .i64 0, .int .i64 0, .slice none 0 0, .slice none 0 0, .int .i64 0, .slice none 0 0, .slice none 0 0] 61) := kZ.kept hk4 (by simp)
    have HB4 : Hid (Below M w V4) := (HB3.out.trans (ba3.mono (by have := HM3.out.lt; omega))).trans (hk4.toBelow (by have := kM.lt; omega) (by simp))
    have X1' : Hid (SlsIn S0 V4 (.slice xa xn xc) h1) := (X1.out.below ba3).to (hk4.sameTo (fun g h => by have := HS00.out g h; simp; exact this.2.1)) (fun _ _ h => h)
    have X2' : Hid (SlsIn S0 V4 (.slice za zn zc) o1) := (X2.out.below ba3).to (hk4.sameTo (fun g h => by have := HS00.out g h; simp; exact this.2.1)) (fun _ _ h => h)
    obtain ⟨y0, y1, y2, y3, y4, y5, y6⟩ := kM.sevenc
    have fM := kM.free
    have lM := HM3.out.lt
    clear kB kZ ba3 hk4 kM HM3 HZ3 HB3 X1 X2
    go_upto_region 12 with fail
    rw [← hV3]
    clear hV3
    go_upto_region 13 with fail
    rw [← hV4]
    clear hV4 y0 y1 y2 y3 y4 y5 y6 fM lM b0 b1
    obtain ⟨y0, y1, y2, y3, y4, y5, y6⟩ := HM4.out.sevenc
    go_wp2_with fail
    refine (HTK.out V4 xa xn xc za zn zc HB4.out (by have := HZ4.out.lt; omega) X1'.out X2'.out).mono ?_
    rintro e w5 ⟨la1, ne1, ha1, hn1, hc1, oa1, on1, oc1, fi1, ga1, gn1, gc1, pa1, pn1, pc1, rfl, G1, T1, b5⟩
    have HZ5 : Hid (Blk w5 (M + 1) #[.int .i64 0, .int .i64 0, .slice none 0 0, .slice none 0 0, .int .i64 0, .slice none 0 0, .slice none 0 0] 61) := HZ4.out.below b5 HZ4.out.lt
    have HB5 : Hid (Below M w w5) := HB4.out.trans (b5.mono (by have := HM4.out.lt; omega))
    have T1' : Hid (TrIn S0 w5 (.slice ha1 hn1 hc1) (.slice oa1 on1 oc1) (.slice ga1 gn1 gc1) (.slice pa1 pn1 pc1) R.1) := T1.out
    clear b5 HZ4 HB4 HM4 HTK X1' X2' y0 y1 y2 y3 y4 y5 y6 T1
    obtain ⟨z0, z1, z2, z3, z4, z5, z6⟩ := HZ5.out.sevenc
    have fM := HZ5.out.free
    have lM := HZ5.out.lt
    obtain ⟨W7, hW7⟩ : ∃ W, W = ((((((w5.setCell ⟨M + 1, 0, none⟩ (.int .i64 la1)).setCell ⟨M + 1, 1, none⟩ (.int .i64 ne1)).setCell ⟨M + 1, 2, none⟩ (.slice ha1 hn1 hc1)).setCell ⟨M + 1, 3, none⟩ (.slice oa1 on1 oc1)).setCell ⟨M + 1, 4, none⟩ (.int .i64 fi1)).setCell ⟨M + 1, 5, none⟩ (.slice ga1 gn1 gc1)).setCell ⟨M + 1, 6, none⟩ (.slice pa1 pn1 pc1) := ⟨_, rfl⟩
    have HZ7 : Hid (Blk W7 (M + 1) #[.int .i64 la1, .int .i64 ne1, .slice ha1 hn1 hc1, .slice oa1 on1 oc1, .int .i64 fi1, .slice ga1 gn1 gc1, .slice pa1 pn1 pc1] 61) := by
      have := ((((((HZ5.out.set 0 (.int .i64 la1)).set 1 (.int .i64 ne1)).set 2 (.slice ha1 hn1 hc1)).set 3 (.slice oa1 on1 oc1)).set 4 (.int .i64 fi1)).set 5 (.slice ga1 gn1 gc1)).set 6 (.slice pa1 pn1 pc1)
      rw [hW7]; simpa [Hid] using this
    have HB7 : Hid (Below M w W7) := by
      show Below _ _ _
      rw [hW7]
      exact seven_belowR HB5.out (by omega) _ _ _ _ _ _ _
    have hk7 : Kept [M + 1] w5 W7 := by
      rw [hW7]
      exact (((((((Kept.refl [M + 1] w5).setCell (p := ⟨M + 1, 0, none⟩) (by simp) _).setCell (p := ⟨M + 1, 1, none⟩) (by simp) _).setCell (p := ⟨M + 1, 2, none⟩) (by simp) _).setCell (p := ⟨M + 1, 3, none⟩) (by simp) _).setCell (p := ⟨M + 1, 4, none⟩) (by simp) _).setCell (p := ⟨M + 1, 5, none⟩) (by simp) _).setCell (p := ⟨M + 1, 6, none⟩) (by simp) _
    have HT7 : Hid (TrIn S W7 (.slice ha1 hn1 hc1) (.slice oa1 on1 oc1) (.slice ga1 gn1 gc1) (.slice pa1 pn1 pc1) R.1) := T1'.out.to (hk7.sameTo (fun g h => by have := HS00.out g h; simp; exact this.2.2)) (fun g _ h => (HS00.out g h).1)
    clear HZ5 HB5 T1' hk7
    go_wp2
    rw [← hW7]
    clear hW7 z0 z1 z2 z3 z4 z5 z6 fM lM
    obtain ⟨y0, y1, y2, y3, y4, y5, y6⟩ := HZ7.out.sevenc
    refine bodyPost_ret (v := .tuple #[.agg #[.int .i64 la1, .int .i64 ne1, .slice ha1 hn1 hc1, .slice oa1 on1 oc1, .int .i64 fi1, .slice ga1 gn1 gc1, .slice pa1 pn1 pc1], .int .i64 R.2.1, .int .i64 R.2.2]) (by simp [results, Tryz.results26, go_sem, y0, y1, y2, y3, y4, y5, y6]) rfl ?_
    refine ⟨_, _, _, _, ?_, HT7.out, HB7.out⟩
    rw [G1.out.1, G1.out.2.1, G1.out.2.2.1]
  · have hpos : (0 : Int) < last := by have := HLB.out; omega
    have HUW' := HUW.out hl0
    have HUW2 : Hid (∀ W : World, Calls Tryz.prog 74 #[.int .i64 last, .int .i64 ps] W fun e w' => e = .returned (.tuple #[.int .i64 n, .int .i64 NE]) ∧ W = w') := HUW'
    clear HUW HUW' HL0 HLB
    go_wp2_with fail
    refine (HUW2.out V1).mono ?_
    rintro e _ ⟨rfl, rfl⟩
    by_cases hne0 : NE = 0
    case neg =>
      have HRX' : Hid (R = (Tr.zero, 0, NE)) := HBAD2'.out hne0
      clear HBAD2' HNB' HUW2 HGO2 HM1 HP1 y0 y1 y2 y3 y4 y5 y6 z0 z1 z2 z3 z4 z5
      obtain ⟨y0, y1, y2, y3, y4, y5, y6⟩ := HZ1.out.sevenc
      have fM := HZ1.out.free
      have lM := HZ1.out.lt
      obtain ⟨W7, hW7⟩ : ∃ W, W = ((((((V1.setCell ⟨M + 1, 0, none⟩ (.int .i64 0)).setCell ⟨M + 1, 1, none⟩ (.int .i64 0)).setCell ⟨M + 1, 2, none⟩ (.slice none 0 0)).setCell ⟨M + 1, 3, none⟩ (.slice none 0 0)).setCell ⟨M + 1, 4, none⟩ (.int .i64 0)).setCell ⟨M + 1, 5, none⟩ (.slice none 0 0)).setCell ⟨M + 1, 6, none⟩ (.slice none 0 0) := ⟨_, rfl⟩
      have HZ7 : Hid (Blk W7 (M + 1) #[.int .i64 0, .int .i64 0, .slice none 0 0, .slice none 0 0, .int .i64 0, .slice none 0 0, .slice none 0 0] 61) := by
        have := ((((((HZ1.out.set 0 (.int .i64 0)).set 1 (.int .i64 0)).set 2 (.slice none 0 0)).set 3 (.slice none 0 0)).set 4 (.int .i64 0)).set 5 (.slice none 0 0)).set 6 (.slice none 0 0)
        rw [hW7]; simpa [Hid] using this
      have HB7 : Hid (Below M w W7) := by
        show Below _ _ _
        rw [hW7]
        exact seven_belowR HB1.out (by omega) _ _ _ _ _ _ _
      clear HZ1 HB1
      go_upto_region 8 with fail
      skip
      skip
      go_wp2
      rw [← hW7]
      clear hW7 y0 y1 y2 y3 y4 y5 y6 fM lM
      obtain ⟨y0, y1, y2, y3, y4, y5, y6⟩ := HZ7.out.sevenc
      refine bodyPost_ret (v := .tuple #[.agg #[.int .i64 0, .int .i64 0, .slice none 0 0, .slice none 0 0, .int .i64 0, .slice none 0 0, .slice none 0 0], .int .i64 0, .int .i64 NE]) (by simp [results, Tryz.results26, go_sem, y0, y1, y2, y3, y4, y5, y6]) rfl ?_
      rw [HRX'.out]
      exact ⟨_, _, _, _, rfl, TrIn.zero _ _, HB7.out⟩
    have hnb := HNB'.out hne0
    have HG : Hid _ := HGO2.out hne0
    clear HNB' HUW2 HBAD2' HGO2
    subst hne0
    by_cases hgt : last < n
    · skip
      have hmx : max last n = n := by omega
      obtain ⟨N1, h1, o1, HPUT0, HTK0⟩ := HG.out
      rw [hmx] at HTK0
      have fM := HM1.out.free
      have lM := HM1.out.lt
      obtain ⟨V2, hV2⟩ : ∃ W, W = V1.setCell ⟨M, 0, none⟩ (.int .i64 n) := ⟨_, rfl⟩
      have hk2 : Kept [M] V1 V2 := by rw [hV2]; exact (Kept.refl [M] V1).setCell (p := ⟨M, 0, none⟩) (by simp) _
      have HM2 : Hid (Blk V2 M #[.int .i64 n, .int .i64 next, .slice ha nh hc, .slice ba0 no bc, .int .i64 first, .slice ga ng gc, .slice oa nO oc] 61) := by
        have := HM1.out.set 0 (.int .i64 n)
        rw [hV2]; simpa [Hid] using this
      have HZ2 : Hid (Blk V2 (M + 1) #[.int .i64 0, .int .i64 0, .slice none 0 0, .slice none 0 0, .int .i64 0, .slice none 0 0, .slice none 0 0] 61) := HZ1.out.kept hk2 (by simp)
      have HP2 : Hid (Blk V2 P #[.int .i64 ps, .int .i64 pt, .bool pf, .bool pe, .bool pk, .string px] 89) := HP1.out.kept hk2 (by simp; omega)
      have HB2 : Hid (Below M w V2) := HB1.out.trans (hk2.toBelow (by omega) (by simp))
      clear hk2 HM1 HZ1 HP1 HB1
      go_upto_region 11 with fail
      rw [← hV2]
      clear hV2 y0 y1 y2 y3 y4 y5 y6 z0 z1 z2 z3 z4 z5 fM lM
      obtain ⟨V1', hV1'⟩ : ∃ W, W = V2 := ⟨_, rfl⟩
      obtain ⟨y0, y1, y2, y3, y4, y5, y6⟩ := HM2.out.sevenc
      obtain ⟨z0, z1, z2, z3, z4, z5⟩ := HP2.out.sixq
      have HPUT : Hid _ := HPUT0
      have HTK : Hid _ := HTK0
      clear HPUT0 HTK0 HG
      go_wp2_with fail
      refine (HPUT.out V2 HB2.out (by have := HZ2.out.lt; omega)).mono ?_
      rintro e w3 ⟨xa, xn, xc, za, zn, zc, rfl, X1, X2, b3⟩
      have HB3 : Hid (Below M w w3) := HB2.out.trans (b3.mono (by have := HB2.out.size; have := HM2.out.lt; omega))
      have HM3 : Hid (Blk w3 M #[.int .i64 n, .int .i64 next, .slice ha nh hc, .slice ba0 no bc, .int .i64 first, .slice ga ng gc, .slice oa nO oc] 61) := HM2.out.below b3 HM2.out.lt
      have HZ3 : Hid (Blk w3 (M + 1) #[.int .i64 0, .int .i64 0, .slice none 0 0, .slice none 0 0, .int .i64 0, .slice none 0 0, .slice none 0 0] 61) := HZ2.out.below b3 HZ2.out.lt
      clear b3 HB2 HM2 HZ2 HP2 HPUT y0 y1 y2 y3 y4 y5 y6 z0 z1 z2 z3 z4 z5
      obtain ⟨V3, hV3⟩ : ∃ W, W = w3.alloc (.cells #[.int .i64 N1, .slice xa xn xc] 57) := ⟨_, rfl⟩
      have ba3 : Below w3.heap.size w3 V3 := by rw [hV3]; exact (Below.refl _ _).alloc (Nat.le_refl _) _
      have kM := HM3.out.below ba3 HM3.out.lt
      have kB := Blk.newE hV3
      have b0 := kB.cell (j := 0) (u := .int .i64 N1) rfl
      have b1 := kB.cell (j := 1) (u := .slice xa xn xc) rfl
      have kZ := HZ3.out.below ba3 HZ3.out.lt
      obtain ⟨V4, hV4⟩ : ∃ W, W = (V3.setCell ⟨M, 1, none⟩ (.int .i64 N1)).setCell ⟨M, 2, none⟩ (.slice xa xn xc) := ⟨_, rfl⟩
      have hk4 : Kept [M] V3 V4 := by rw [hV4]; exact ((Kept.refl [M] V3).setCell (p := ⟨M, 1, none⟩) (by simp) _).setCell (p := ⟨M, 2, none⟩) (by simp) _
      have HM4 : Hid (Blk V4 M #[.int .i64 n, .int .i64 N1, .slice xa xn xc, .slice ba0 no bc, .int .i64 first, .slice ga ng gc, .slice oa nO oc] 61) := by
        have := (kM.set 1 (.int .i64 N1)).set 2 (.slice xa xn xc)
        rw [hV4]; simpa [Hid] using this
      have HZ4 : Hid (Blk V4 (M + 1) #[.int .i64 0, .int .i64 0, .slice none 0 0, .slice none 0 0, .int .i64 0, .slice none 0 0, .slice none 0 0] 61) := kZ.kept hk4 (by simp)
      have HB4 : Hid (Below M w V4) := (HB3.out.trans (ba3.mono (by have := HM3.out.lt; omega))).trans (hk4.toBelow (by have := kM.lt; omega) (by simp))
      have X1' : Hid (SlsIn S0 V4 (.slice xa xn xc) h1) := (X1.out.below ba3).to (hk4.sameTo (fun g h => by have := HS00.out g h; simp; exact this.2.1)) (fun _ _ h => h)
      have X2' : Hid (SlsIn S0 V4 (.slice za zn zc) o1) := (X2.out.below ba3).to (hk4.sameTo (fun g h => by have := HS00.out g h; simp; exact this.2.1)) (fun _ _ h => h)
      obtain ⟨y0, y1, y2, y3, y4, y5, y6⟩ := kM.sevenc
      have fM := kM.free
      have lM := HM3.out.lt
      clear kB kZ ba3 hk4 kM HM3 HZ3 HB3 X1 X2
      go_upto_region 12 with fail
      rw [← hV3]
      clear hV3
      go_upto_region 13 with fail
      rw [← hV4]
      clear hV4 y0 y1 y2 y3 y4 y5 y6 fM lM b0 b1
      obtain ⟨y0, y1, y2, y3, y4, y5, y6⟩ := HM4.out.sevenc
      go_wp2_with fail
      refine (HTK.out V4 xa xn xc za zn zc HB4.out (by have := HZ4.out.lt; omega) X1'.out X2'.out).mono ?_
      rintro e w5 ⟨la1, ne1, ha1, hn1, hc1, oa1, on1, oc1, fi1, ga1, gn1, gc1, pa1, pn1, pc1, rfl, G1, T1, b5⟩
      have HZ5 : Hid (Blk w5 (M + 1) #[.int .i64 0, .int .i64 0, .slice none 0 0, .slice none 0 0, .int .i64 0, .slice none 0 0, .slice none 0 0] 61) := HZ4.out.below b5 HZ4.out.lt
      have HB5 : Hid (Below M w w5) := HB4.out.trans (b5.mono (by have := HM4.out.lt; omega))
      have T1' : Hid (TrIn S0 w5 (.slice ha1 hn1 hc1) (.slice oa1 on1 oc1) (.slice ga1 gn1 gc1) (.slice pa1 pn1 pc1) R.1) := T1.out
      clear b5 HZ4 HB4 HM4 HTK X1' X2' y0 y1 y2 y3 y4 y5 y6 T1
      obtain ⟨z0, z1, z2, z3, z4, z5, z6⟩ := HZ5.out.sevenc
      have fM := HZ5.out.free
      have lM := HZ5.out.lt
      obtain ⟨W7, hW7⟩ : ∃ W, W = ((((((w5.setCell ⟨M + 1, 0, none⟩ (.int .i64 la1)).setCell ⟨M + 1, 1, none⟩ (.int .i64 ne1)).setCell ⟨M + 1, 2, none⟩ (.slice ha1 hn1 hc1)).setCell ⟨M + 1, 3, none⟩ (.slice oa1 on1 oc1)).setCell ⟨M + 1, 4, none⟩ (.int .i64 fi1)).setCell ⟨M + 1, 5, none⟩ (.slice ga1 gn1 gc1)).setCell ⟨M + 1, 6, none⟩ (.slice pa1 pn1 pc1) := ⟨_, rfl⟩
      have HZ7 : Hid (Blk W7 (M + 1) #[.int .i64 la1, .int .i64 ne1, .slice ha1 hn1 hc1, .slice oa1 on1 oc1, .int .i64 fi1, .slice ga1 gn1 gc1, .slice pa1 pn1 pc1] 61) := by
        have := ((((((HZ5.out.set 0 (.int .i64 la1)).set 1 (.int .i64 ne1)).set 2 (.slice ha1 hn1 hc1)).set 3 (.slice oa1 on1 oc1)).set 4 (.int .i64 fi1)).set 5 (.slice ga1 gn1 gc1)).set 6 (.slice pa1 pn1 pc1)
        rw [hW7]; simpa [Hid] using this
      have HB7 : Hid (Below M w W7) := by
        show Below _ _ _
        rw [hW7]
        exact seven_belowR HB5.out (by omega) _ _ _ _ _ _ _
      have hk7 : Kept [M + 1] w5 W7 := by
        rw [hW7]
        exact (((((((Kept.refl [M + 1] w5).setCell (p := ⟨M + 1, 0, none⟩) (by simp) _).setCell (p := ⟨M + 1, 1, none⟩) (by simp) _).setCell (p := ⟨M + 1, 2, none⟩) (by simp) _).setCell (p := ⟨M + 1, 3, none⟩) (by simp) _).setCell (p := ⟨M + 1, 4, none⟩) (by simp) _).setCell (p := ⟨M + 1, 5, none⟩) (by simp) _).setCell (p := ⟨M + 1, 6, none⟩) (by simp) _
      have HT7 : Hid (TrIn S W7 (.slice ha1 hn1 hc1) (.slice oa1 on1 oc1) (.slice ga1 gn1 gc1) (.slice pa1 pn1 pc1) R.1) := T1'.out.to (hk7.sameTo (fun g h => by have := HS00.out g h; simp; exact this.2.2)) (fun g _ h => (HS00.out g h).1)
      clear HZ5 HB5 T1' hk7
      go_wp2
      rw [← hW7]
      clear hW7 z0 z1 z2 z3 z4 z5 z6 fM lM
      obtain ⟨y0, y1, y2, y3, y4, y5, y6⟩ := HZ7.out.sevenc
      refine bodyPost_ret (v := .tuple #[.agg #[.int .i64 la1, .int .i64 ne1, .slice ha1 hn1 hc1, .slice oa1 on1 oc1, .int .i64 fi1, .slice ga1 gn1 gc1, .slice pa1 pn1 pc1], .int .i64 R.2.1, .int .i64 R.2.2]) (by simp [results, Tryz.results26, go_sem, y0, y1, y2, y3, y4, y5, y6]) rfl ?_
      refine ⟨_, _, _, _, ?_, HT7.out, HB7.out⟩
      rw [G1.out.1, G1.out.2.1, G1.out.2.2.1]
    · have hmx : max last n = last := by omega
      obtain ⟨N1, h1, o1, HPUT0, HTK0⟩ := HG.out
      rw [hmx] at HTK0
      have HPUT : Hid _ := HPUT0
      have HTK : Hid _ := HTK0
      clear HPUT0 HTK0 HG
      go_wp2_with fail
      refine (HPUT.out V1 HB1.out (by have := HZ1.out.lt; omega)).mono ?_
      rintro e w3 ⟨xa, xn, xc, za, zn, zc, rfl, X1, X2, b3⟩
      have HB3 : Hid (Below M w w3) := HB1.out.trans (b3.mono (by have := HB1.out.size; have := HM1.out.lt; omega))
      have HM3 : Hid (Blk w3 M #[.int .i64 last, .int .i64 next, .slice ha nh hc, .slice ba0 no bc, .int .i64 first, .slice ga ng gc, .slice oa nO oc] 61) := HM1.out.below b3 HM1.out.lt
      have HZ3 : Hid (Blk w3 (M + 1) #[.int .i64 0, .int .i64 0, .slice none 0 0, .slice none 0 0, .int .i64 0, .slice none 0 0, .slice none 0 0] 61) := HZ1.out.below b3 HZ1.out.lt
      clear b3 HB1 HM1 HZ1 HP1 HPUT y0 y1 y2 y3 y4 y5 y6 z0 z1 z2 z3 z4 z5
      obtain ⟨V3, hV3⟩ : ∃ W, W = w3.alloc (.cells #[.int .i64 N1, .slice xa xn xc] 57) := ⟨_, rfl⟩
      have ba3 : Below w3.heap.size w3 V3 := by rw [hV3]; exact (Below.refl _ _).alloc (Nat.le_refl _) _
      have kM := HM3.out.below ba3 HM3.out.lt
      have kB := Blk.newE hV3
      have b0 := kB.cell (j := 0) (u := .int .i64 N1) rfl
      have b1 := kB.cell (j := 1) (u := .slice xa xn xc) rfl
      have kZ := HZ3.out.below ba3 HZ3.out.lt
      obtain ⟨V4, hV4⟩ : ∃ W, W = (V3.setCell ⟨M, 1, none⟩ (.int .i64 N1)).setCell ⟨M, 2, none⟩ (.slice xa xn xc) := ⟨_, rfl⟩
      have hk4 : Kept [M] V3 V4 := by rw [hV4]; exact ((Kept.refl [M] V3).setCell (p := ⟨M, 1, none⟩) (by simp) _).setCell (p := ⟨M, 2, none⟩) (by simp) _
      have HM4 : Hid (Blk V4 M #[.int .i64 last, .int .i64 N1, .slice xa xn xc, .slice ba0 no bc, .int .i64 first, .slice ga ng gc, .slice oa nO oc] 61) := by
        have := (kM.set 1 (.int .i64 N1)).set 2 (.slice xa xn xc)
        rw [hV4]; simpa [Hid] using this
      have HZ4 : Hid (Blk V4 (M + 1) #[.int .i64 0, .int .i64 0, .slice none 0 0, .slice none 0 0, .int .i64 0, .slice none 0 0, .slice none 0 0] 61) := kZ.kept hk4 (by simp)
      have HB4 : Hid (Below M w V4) := (HB3.out.trans (ba3.mono (by have := HM3.out.lt; omega))).trans (hk4.toBelow (by have := kM.lt; omega) (by simp))
      have X1' : Hid (SlsIn S0 V4 (.slice xa xn xc) h1) := (X1.out.below ba3).to (hk4.sameTo (fun g h => by have := HS00.out g h; simp; exact this.2.1)) (fun _ _ h => h)
      have X2' : Hid (SlsIn S0 V4 (.slice za zn zc) o1) := (X2.out.below ba3).to (hk4.sameTo (fun g h => by have := HS00.out g h; simp; exact this.2.1)) (fun _ _ h => h)
      obtain ⟨y0, y1, y2, y3, y4, y5, y6⟩ := kM.sevenc
      have fM := kM.free
      have lM := HM3.out.lt
      clear kB kZ ba3 hk4 kM HM3 HZ3 HB3 X1 X2
      go_upto_region 12 with fail
      rw [← hV3]
      clear hV3
      go_upto_region 13 with fail
      rw [← hV4]
      clear hV4 y0 y1 y2 y3 y4 y5 y6 fM lM b0 b1
      obtain ⟨y0, y1, y2, y3, y4, y5, y6⟩ := HM4.out.sevenc
      go_wp2_with fail
      refine (HTK.out V4 xa xn xc za zn zc HB4.out (by have := HZ4.out.lt; omega) X1'.out X2'.out).mono ?_
      rintro e w5 ⟨la1, ne1, ha1, hn1, hc1, oa1, on1, oc1, fi1, ga1, gn1, gc1, pa1, pn1, pc1, rfl, G1, T1, b5⟩
      have HZ5 : Hid (Blk w5 (M + 1) #[.int .i64 0, .int .i64 0, .slice none 0 0, .slice none 0 0, .int .i64 0, .slice none 0 0, .slice none 0 0] 61) := HZ4.out.below b5 HZ4.out.lt
      have HB5 : Hid (Below M w w5) := HB4.out.trans (b5.mono (by have := HM4.out.lt; omega))
      have T1' : Hid (TrIn S0 w5 (.slice ha1 hn1 hc1) (.slice oa1 on1 oc1) (.slice ga1 gn1 gc1) (.slice pa1 pn1 pc1) R.1) := T1.out
      clear b5 HZ4 HB4 HM4 HTK X1' X2' y0 y1 y2 y3 y4 y5 y6 T1
      obtain ⟨z0, z1, z2, z3, z4, z5, z6⟩ := HZ5.out.sevenc
      have fM := HZ5.out.free
      have lM := HZ5.out.lt
      obtain ⟨W7, hW7⟩ : ∃ W, W = ((((((w5.setCell ⟨M + 1, 0, none⟩ (.int .i64 la1)).setCell ⟨M + 1, 1, none⟩ (.int .i64 ne1)).setCell ⟨M + 1, 2, none⟩ (.slice ha1 hn1 hc1)).setCell ⟨M + 1, 3, none⟩ (.slice oa1 on1 oc1)).setCell ⟨M + 1, 4, none⟩ (.int .i64 fi1)).setCell ⟨M + 1, 5, none⟩ (.slice ga1 gn1 gc1)).setCell ⟨M + 1, 6, none⟩ (.slice pa1 pn1 pc1) := ⟨_, rfl⟩
      have HZ7 : Hid (Blk W7 (M + 1) #[.int .i64 la1, .int .i64 ne1, .slice ha1 hn1 hc1, .slice oa1 on1 oc1, .int .i64 fi1, .slice ga1 gn1 gc1, .slice pa1 pn1 pc1] 61) := by
        have := ((((((HZ5.out.set 0 (.int .i64 la1)).set 1 (.int .i64 ne1)).set 2 (.slice ha1 hn1 hc1)).set 3 (.slice oa1 on1 oc1)).set 4 (.int .i64 fi1)).set 5 (.slice ga1 gn1 gc1)).set 6 (.slice pa1 pn1 pc1)
        rw [hW7]; simpa [Hid] using this
      have HB7 : Hid (Below M w W7) := by
        show Below _ _ _
        rw [hW7]
        exact seven_belowR HB5.out (by omega) _ _ _ _ _ _ _
      have hk7 : Kept [M + 1] w5 W7 := by
        rw [hW7]
        exact (((((((Kept.refl [M + 1] w5).setCell (p := ⟨M + 1, 0, none⟩) (by simp) _).setCell (p := ⟨M + 1, 1, none⟩) (by simp) _).setCell (p := ⟨M + 1, 2, none⟩) (by simp) _).setCell (p := ⟨M + 1, 3, none⟩) (by simp) _).setCell (p := ⟨M + 1, 4, none⟩) (by simp) _).setCell (p := ⟨M + 1, 5, none⟩) (by simp) _).setCell (p := ⟨M + 1, 6, none⟩) (by simp) _
      have HT7 : Hid (TrIn S W7 (.slice ha1 hn1 hc1) (.slice oa1 on1 oc1) (.slice ga1 gn1 gc1) (.slice pa1 pn1 pc1) R.1) := T1'.out.to (hk7.sameTo (fun g h => by have := HS00.out g h; simp; exact this.2.2)) (fun g _ h => (HS00.out g h).1)
      clear HZ5 HB5 T1' hk7
      go_wp2
      rw [← hW7]
      clear hW7 z0 z1 z2 z3 z4 z5 z6 fM lM
      obtain ⟨y0, y1, y2, y3, y4, y5, y6⟩ := HZ7.out.sevenc
      refine bodyPost_ret (v := .tuple #[.agg #[.int .i64 la1, .int .i64 ne1, .slice ha1 hn1 hc1, .slice oa1 on1 oc1, .int .i64 fi1, .slice ga1 gn1 gc1, .slice pa1 pn1 pc1], .int .i64 R.2.1, .int .i64 R.2.2]) (by simp [results, Tryz.results26, go_sem, y0, y1, y2, y3, y4, y5, y6]) rfl ?_
      refine ⟨_, _, _, _, ?_, HT7.out, HB7.out⟩
      rw [G1.out.1, G1.out.2.1, G1.out.2.2.1]

set_option maxHeartbeats 16000000 in
set_option maxRecDepth 100000 in
theorem refDrainOf_in (S : Nat → Prop) (t : Tr) (hv bv gv ov : Value) (w : World) (hr : TrIn S w hv bv gv ov t) (hS : ∀ g, w.heap.size ≤ g → S g) (hc0 : t.chk = 0) (hcap : ∀ a n c, hv = .slice a n c → n ≤ c) :
    Calls Tryz.prog 27 #[.agg #[.int .i64 t.last, .int .i64 t.next, hv, bv, .int .i64 t.first, gv, ov]] w fun e w' => ∃ hv' bv' gv' ov', e = .returned (.tuple #[.agg #[.int .i64 (drainR t).1.last, .int .i64 (drainR t).1.next, hv', bv', .int .i64 (drainR t).1.first, gv', ov'], .int .i64 (drainR t).2.1, .int .i64 (drainR t).2.2]) ∧ TrIn S w' hv' bv' gv' ov' (drainR t).1 ∧ Below w.heap.size w w' := by
  obtain ⟨c1, c2, c3, c4, c5⟩ := Tr.chk_zero.1 hc0
  obtain ⟨M, hM⟩ : ∃ x, x = w.heap.size := ⟨_, rfl⟩
  obtain ⟨S0, hS0⟩ : ∃ P : Nat → Prop, P = fun g => S g ∧ g ≠ M ∧ g ≠ M + 1 := ⟨_, rfl⟩
  have mk0 : ∀ g, S g → g ≠ M → g ≠ M + 1 → S0 g := fun g h1 h2 h3 => by rw [hS0]; exact ⟨h1, h2, h3⟩
  have HS00 : Hid (∀ g, S0 g → S g ∧ g ≠ M ∧ g ≠ M + 1) := fun g h => by rw [hS0] at h; exact h
  obtain ⟨R, hR⟩ : ∃ R, R = drainR t := ⟨_, rfl⟩
  have HG : Hid (∃ N1 h1 o1, (∀ W : World, Below M w W → M + 2 ≤ W.heap.size → Calls Tryz.prog 77 #[.agg #[.int .i64 t.next, hv]] W fun e w' => ∃ xa xn xc za zn zc, e = .returned (.tuple #[.agg #[.int .i64 N1, .slice xa xn xc], .slice za zn zc]) ∧ Hid (SlsIn S0 w' (.slice xa xn xc) h1) ∧ Hid (SlsIn S0 w' (.slice za zn zc) o1) ∧ Below W.heap.size W w') ∧
      (∀ (W : World) (xa : Option Addr) (xn xc : Nat) (za : Option Addr) (zn zc : Nat), Below M w W → M + 2 ≤ W.heap.size → SlsIn S0 W (.slice xa xn xc) h1 → SlsIn S0 W (.slice za zn zc) o1 → Calls Tryz.prog 76 #[.agg #[.int .i64 t.last, .int .i64 N1, .slice xa xn xc, bv, .int .i64 t.first, gv, ov], .slice za zn zc] W fun e w' => ∃ la1 ne1 ha1 hn1 hc1 oa1 on1 oc1 fi1 ga1 gn1 gc1 pa1 pn1 pc1, e = .returned (.tuple #[.agg #[.int .i64 la1, .int .i64 ne1, .slice ha1 hn1 hc1, .slice oa1 on1 oc1, .int .i64 fi1, .slice ga1 gn1 gc1, .slice pa1 pn1 pc1], .int .i64 R.2.1, .int .i64 R.2.2]) ∧ Hid (la1 = R.1.last ∧ ne1 = R.1.next ∧ fi1 = R.1.first ∧ gn1 = R.1.L.length) ∧ Hid (TrIn S0 w' (.slice ha1 hn1 hc1) (.slice oa1 on1 oc1) (.slice ga1 gn1 gc1) (.slice pa1 pn1 pc1) R.1) ∧ Below W.heap.size W w')) := by
    obtain ⟨i1, i2, i3, i4, i5⟩ := flush_inv c2
    have hRe : R = tkN (relF 0 t.next t.h []).2.2 (t.buf t.last (relF 0 t.next t.h []).1 (relF 0 t.next t.h []).2.1, 0) := hR
    have hlo : (relF 0 t.next t.h []).2.2.length ≤ 100 := by
      have := rel_olen 0 t.h t.next []
      have := c2.2.1
      simp only [List.length_nil] at *
      omega
    have hnums : Nums t.h := fun y hy => by
      have := Sk.chk_zero (c2.2.2.1 y hy)
      exact ⟨this.1, this.2.1⟩
    refine ⟨(relF 0 t.next t.h []).1, (relF 0 t.next t.h []).2.1, (relF 0 t.next t.h []).2.2, fun W hW hWs => ?_, fun W xa xn xc za zn zc hW hWs q1 q2 => ?_⟩
    · refine (flushOf_any t.next hv t.h W (hr.1.below (by rw [← hM]; exact hW)).1 hcap hnums (by rcases c2.1 with ⟨h, _⟩ | h <;> omega) (by have := c2.2.1; omega)).mono ?_
      rintro e w' ⟨hv', ov', rfl, f1, f2, f3, f4, f5⟩
      obtain ⟨pa, pc, e2⟩ := f1.len
      obtain ⟨qa, qc, e3⟩ := f2.len
      have l1 : (relF 0 t.next t.h []).2.1.length = 0 := by rw [i5]; rfl
      refine ⟨pa, _, pc, qa, _, qc, by rw [e2, e3], ?_, ?_, f3⟩
      · rw [← e2]
        exact SlsIn.of f1 (by omega) fun g hg h0 => absurd h0 (by omega)
      · rw [← e3]
        refine SlsIn.of f2 (by omega) fun g hg _ => ?_
        have := f5 g hg
        exact mk0 g (hS g (by omega)) (by omega) (by omega)
    · have hrW : TrIn S0 W hv bv gv ov t := ((hr.mono (S' := fun g => S g ∧ g < M) fun g h hs => ⟨hs, by rw [hM]; exact h⟩).below (by rw [← hM]; exact hW)).mono fun g _ h => mk0 g h.1 (Nat.ne_of_lt h.2) (by have := h.2; omega)
      refine (taken_in S0 (t.buf t.last _ _) _ bv gv ov _ _ W ⟨q1, hrW.2.1, hrW.2.2.1, hrW.2.2.2⟩ (fun g hg => mk0 g (hS g (by omega)) (by omega) (by omega)) ⟨c3, c4⟩ (q2.mono fun _ _ _ => trivial) (fun y hy => c2.2.2.1 y (i3 y hy).1) hlo).mono ?_
      rintro e w' ⟨x1, x2, x3, x4, rfl, q, b⟩
      rw [← hRe] at q ⊢
      obtain ⟨a1, c1, a2, c2, a3, c3, a4, c4, e1, e2, e3, e4⟩ := q.slices
      subst e1 e2 e3 e4
      exact ⟨_, _, _, _, _, _, _, _, _, _, _, _, _, _, _, rfl, ⟨rfl, rfl, rfl, rfl⟩, q, b⟩
  rw [← hR]
  obtain ⟨ha, hc, ba0, bc, ga, gc, oa, oc, eh, eb, eg, eo⟩ := hr.slices
  obtain ⟨nh, hnh⟩ : ∃ n, n = t.h.length := ⟨_, rfl⟩
  obtain ⟨no, hno⟩ : ∃ n, n = t.o.length := ⟨_, rfl⟩
  obtain ⟨ng, hng⟩ : ∃ n, n = t.L.length := ⟨_, rfl⟩
  obtain ⟨nO, hnO⟩ : ∃ n, n = t.O.length := ⟨_, rfl⟩
  rw [← hnh] at eh
  rw [← hno] at eb
  rw [← hng] at eg
  rw [← hnO] at eo
  obtain ⟨last, hla⟩ : ∃ x, x = t.last := ⟨_, rfl⟩
  obtain ⟨next, hne⟩ : ∃ x, x = t.next := ⟨_, rfl⟩
  obtain ⟨first, hfi⟩ : ∃ x, x = t.first := ⟨_, rfl⟩
  rw [← hla, ← hne, ← hfi] at HG
  rw [← hla, ← hne, ← hfi]
  obtain ⟨V1, hV⟩ : ∃ V, V = (w.alloc (.cells #[.int .i64 last, .int .i64 next, .slice ha nh hc, .slice ba0 no bc, .int .i64 first, .slice ga ng gc, .slice oa nO oc] 61)).alloc (.cells #[.int .i64 0, .int .i64 0, .slice none 0 0, .slice none 0 0, .int .i64 0, .slice none 0 0, .slice none 0 0] 61) := ⟨_, rfl⟩
  have HB1 : Hid (Below M w V1) := by show Below M w V1; rw [hV, hM]; exact ((Below.refl _ w).alloc (Nat.le_refl _) _).alloc (by simp) _
  have HM1 : Hid (Blk V1 M #[.int .i64 last, .int .i64 next, .slice ha nh hc, .slice ba0 no bc, .int .i64 first, .slice ga ng gc, .slice oa nO oc] 61) := by
    have := (Blk.new w #[.int .i64 last, .int .i64 next, .slice ha nh hc, .slice ba0 no bc, .int .i64 first, .slice ga ng gc, .slice oa nO oc] 61).alloc (.cells #[.int .i64 0, .int .i64 0, .slice none 0 0, .slice none 0 0, .int .i64 0, .slice none 0 0, .slice none 0 0] 61)
    rw [← hV, ← hM] at this
    exact this
  have HZ1 : Hid (Blk V1 (M + 1) #[.int .i64 0, .int .i64 0, .slice none 0 0, .slice none 0 0, .int .i64 0, .slice none 0 0, .slice none 0 0] 61) := by
    have := Blk.new (w.alloc (.cells #[.int .i64 last, .int .i64 next, .slice ha nh hc, .slice ba0 no bc, .int .i64 first, .slice ga ng gc, .slice oa nO oc] 61)) #[.int .i64 0, .int .i64 0, .slice none 0 0, .slice none 0 0, .int .i64 0, .slice none 0 0, .slice none 0 0] 61
    rw [World.size_alloc, ← hV, ← hM] at this
    exact this
  have HP1 : Hid True := trivial
  obtain ⟨y0, y1, y2, y3, y4, y5, y6⟩ := HM1.out.sevenc
  have HMe : Hid (M = w.heap.size) := hM
  rw [← hM]
  clear hS hS0 mk0 hR hla hne hfi hnh hno hng hnO hr hc0 c1 c2 c3 c4 c5 hcap
  subst eh eb eg eo
  go_enter Tryz.func27, Tryz.ntmps27
  go_upto_region 1 with fail
  rw [← hV]
  try rw [← hM]
  clear hV hM
  obtain ⟨N1, h1, o1, HPUT0, HTK0⟩ := HG.out
  have HPUT : Hid _ := HPUT0
  have HTK : Hid _ := HTK0
  clear HPUT0 HTK0 HG
  go_wp2_with fail
  refine (HPUT.out V1 HB1.out (by have := HZ1.out.lt; omega)).mono ?_
  rintro e w3 ⟨xa, xn, xc, za, zn, zc, rfl, X1, X2, b3⟩
  have HB3 : Hid (Below M w w3) := HB1.out.trans (b3.mono (by have := HB1.out.size; have := HM1.out.lt; omega))
  have HM3 : Hid (Blk w3 M #[.int .i64 last, .int .i64 next, .slice ha nh hc, .slice ba0 no bc, .int .i64 first, .slice ga ng gc, .slice oa nO oc] 61) := HM1.out.below b3 HM1.out.lt
  have HZ3 : Hid (Blk w3 (M + 1) #[.int .i64 0, .int .i64 0, .slice none 0 0, .slice none 0 0, .int .i64 0, .slice none 0 0, .slice none 0 0] 61) := HZ1.out.below b3 HZ1.out.lt
  clear b3 HB1 HM1 HZ1 HP1 HPUT y0 y1 y2 y3 y4 y5 y6
  obtain ⟨V3, hV3⟩ : ∃ W, W = w3.alloc (.cells #[.int .i64 N1, .slice xa xn xc] 57) := ⟨_, rfl⟩
  have ba3 : Below w3.heap.size w3 V3 := by rw [hV3]; exact (Below.refl _ _).alloc (Nat.le_refl _) _
  have kM := HM3.out.below ba3 HM3.out.lt
  have kB := Blk.newE hV3
  have b0 := kB.cell (j := 0) (u := .int .i64 N1) rfl
  have b1 := kB.cell (j := 1) (u := .slice xa xn xc) rfl
  have kZ := HZ3.out.below ba3 HZ3.out.lt
  obtain ⟨V4, hV4⟩ : ∃ W, W = (V3.setCell ⟨M, 1, none⟩ (.int .i64 N1)).setCell ⟨M, 2, none⟩ (.slice xa xn xc) := ⟨_, rfl⟩
  have hk4 : Kept [M] V3 V4 := by rw [hV4]; exact ((Kept.refl [M] V3).setCell (p := ⟨M, 1, none⟩) (by simp) _).setCell (p := ⟨M, 2, none⟩) (by simp) _
  have HM4 : Hid (Blk V4 M #[.int .i64 last, .int .i64 N1, .slice xa xn xc, .slice ba0 no bc, .int .i64 first, .slice ga ng gc, .slice oa nO oc] 61) := by
    have := (kM.set 1 (.int .i64 N1)).set 2 (.slice xa xn xc)
    rw [hV4]; simpa [Hid] using this
  have HZ4 : Hid (Blk V4 (M + 1) #[.int .i64 0, .int .i64 0, .slice none 0 0, .slice none 0 0, .int .i64 0, .slice none 0 0, .slice none 0 0] 61) := kZ.kept hk4 (by simp)
  have HB4 : Hid (Below M w V4) := (HB3.out.trans (ba3.mono (by have := HM3.out.lt; omega))).trans (hk4.toBelow (by have := kM.lt; omega) (by simp))
  have X1' : Hid (SlsIn S0 V4 (.slice xa xn xc) h1) := (X1.out.below ba3).to (hk4.sameTo (fun g h => by have := HS00.out g h; simp; exact this.2.1)) (fun _ _ h => h)
  have X2' : Hid (SlsIn S0 V4 (.slice za zn zc) o1) := (X2.out.below ba3).to (hk4.sameTo (fun g h => by have := HS00.out g h; simp; exact this.2.1)) (fun _ _ h => h)
  obtain ⟨y0, y1, y2, y3, y4, y5, y6⟩ := kM.sevenc
  have fM := kM.free
  have lM := HM3.out.lt
  clear kB kZ ba3 hk4 kM HM3 HZ3 HB3 X1 X2
  go_upto_region 2 with fail
  rw [← hV3]
  clear hV3
  go_upto_region 3 with fail
  rw [← hV4]
  clear hV4 y0 y1 y2 y3 y4 y5 y6 fM lM b0 b1
  obtain ⟨y0, y1, y2, y3, y4, y5, y6⟩ := HM4.out.sevenc
  go_wp2_with fail
  refine (HTK.out V4 xa xn xc za zn zc HB4.out (by have := HZ4.out.lt; omega) X1'.out X2'.out).mono ?_
  rintro e w5 ⟨la1, ne1, ha1, hn1, hc1, oa1, on1, oc1, fi1, ga1, gn1, gc1, pa1, pn1, pc1, rfl, G1, T1, b5⟩
  have HZ5 : Hid (Blk w5 (M + 1) #[.int .i64 0, .int .i64 0, .slice none 0 0, .slice none 0 0, .int .i64 0, .slice none 0 0, .slice none 0 0] 61) := HZ4.out.below b5 HZ4.out.lt
  have HB5 : Hid (Below M w w5) := HB4.out.trans (b5.mono (by have := HM4.out.lt; omega))
  have T1' : Hid (TrIn S0 w5 (.slice ha1 hn1 hc1) (.slice oa1 on1 oc1) (.slice ga1 gn1 gc1) (.slice pa1 pn1 pc1) R.1) := T1.out
  clear b5 HZ4 HB4 HM4 HTK X1' X2' y0 y1 y2 y3 y4 y5 y6 T1
  obtain ⟨z0, z1, z2, z3, z4, z5, z6⟩ := HZ5.out.sevenc
  have fM := HZ5.out.free
  have lM := HZ5.out.lt
  obtain ⟨W7, hW7⟩ : ∃ W, W = ((((((w5.setCell ⟨M + 1, 0, none⟩ (.int .i64 la1)).setCell ⟨M + 1, 1, none⟩ (.int .i64 ne1)).setCell ⟨M + 1, 2, none⟩ (.slice ha1 hn1 hc1)).setCell ⟨M + 1, 3, none⟩ (.slice oa1 on1 oc1)).setCell ⟨M + 1, 4, none⟩ (.int .i64 fi1)).setCell ⟨M + 1, 5, none⟩ (.slice ga1 gn1 gc1)).setCell ⟨M + 1, 6, none⟩ (.slice pa1 pn1 pc1) := ⟨_, rfl⟩
  have HZ7 : Hid (Blk W7 (M + 1) #[.int .i64 la1, .int .i64 ne1, .slice ha1 hn1 hc1, .slice oa1 on1 oc1, .int .i64 fi1, .slice ga1 gn1 gc1, .slice pa1 pn1 pc1] 61) := by
    have := ((((((HZ5.out.set 0 (.int .i64 la1)).set 1 (.int .i64 ne1)).set 2 (.slice ha1 hn1 hc1)).set 3 (.slice oa1 on1 oc1)).set 4 (.int .i64 fi1)).set 5 (.slice ga1 gn1 gc1)).set 6 (.slice pa1 pn1 pc1)
    rw [hW7]; simpa [Hid] using this
  have HB7 : Hid (Below M w W7) := by
    show Below _ _ _
    rw [hW7]
    exact seven_belowR HB5.out (by omega) _ _ _ _ _ _ _
  have hk7 : Kept [M + 1] w5 W7 := by
    rw [hW7]
    exact (((((((Kept.refl [M + 1] w5).setCell (p := ⟨M + 1, 0, none⟩) (by simp) _).setCell (p := ⟨M + 1, 1, none⟩) (by simp) _).setCell (p := ⟨M + 1, 2, none⟩) (by simp) _).setCell (p := ⟨M + 1, 3, none⟩) (by simp) _).setCell (p := ⟨M + 1, 4, none⟩) (by simp) _).setCell (p := ⟨M + 1, 5, none⟩) (by simp) _).setCell (p := ⟨M + 1, 6, none⟩) (by simp) _
  have HT7 : Hid (TrIn S W7 (.slice ha1 hn1 hc1) (.slice oa1 on1 oc1) (.slice ga1 gn1 gc1) (.slice pa1 pn1 pc1) R.1) := T1'.out.to (hk7.sameTo (fun g h => by have := HS00.out g h; simp; exact this.2.2)) (fun g _ h => (HS00.out g h).1)
  clear HZ5 HB5 T1' hk7
  go_wp2
  rw [← hW7]
  clear hW7 z0 z1 z2 z3 z4 z5 z6 fM lM
  obtain ⟨y0, y1, y2, y3, y4, y5, y6⟩ := HZ7.out.sevenc
  refine bodyPost_ret (v := .tuple #[.agg #[.int .i64 la1, .int .i64 ne1, .slice ha1 hn1 hc1, .slice oa1 on1 oc1, .int .i64 fi1, .slice ga1 gn1 gc1, .slice pa1 pn1 pc1], .int .i64 R.2.1, .int .i64 R.2.2]) (by simp [results, Tryz.results27, go_sem, y0, y1, y2, y3, y4, y5, y6]) rfl ?_
  refine ⟨_, _, _, _, ?_, HT7.out, HB7.out⟩
  rw [G1.out.1, G1.out.2.1, G1.out.2.2.1]

end Go.Proofs.YtnpaejknoipicafGreat

namespace Go.Proofs.YtnpaejknoipicafGreat
open Go.RowKit

def sameSt (f f' : Int) (L L' : List (List Fr)) (O O' : List Fr) : Bool := decide (f = f') && (sameGs L L' && sameFs O O')
theorem sameSt_self (f : Int) (L : List (List Fr)) (O : List Fr) : sameSt f f L L O O = true := by simp [sameSt, sameGs, sameFs]

set_option maxHeartbeats 2000000 in
set_option maxRecDepth 100000 in
theorem sameStore_any (f f' : Int) (gv ov gv' ov' : Value) (L L' : List (List Fr)) (O O' : List Fr) (w : World) (hg : GrsIn (fun _ => True) w gv L) (ho : FrsIn (fun _ => True) w ov O) (hg' : GrsIn (fun _ => True) w gv' L') (ho' : FrsIn (fun _ => True) w ov' O') :
    Calls Tryz.prog 19 #[.agg #[.int .i64 f, gv, ov], .agg #[.int .i64 f', gv', ov']] w fun e w' => e = .returned (.bool (sameSt f f' L L' O O')) ∧ Below w.heap.size w w' := by
  obtain ⟨ga, gc, eg, _, _⟩ := hg.len
  obtain ⟨oa, oc, eo, _, hol⟩ := ho.len
  obtain ⟨ga', gc', eg', _, _⟩ := hg'.len
  obtain ⟨oa', oc', eo', _, _⟩ := ho'.len
  obtain ⟨ln, hln⟩ : ∃ n, n = L.length := ⟨_, rfl⟩
  obtain ⟨lo, hlo⟩ : ∃ n, n = O.length := ⟨_, rfl⟩
  obtain ⟨ln', hln'⟩ : ∃ n, n = L'.length := ⟨_, rfl⟩
  obtain ⟨lo', hlo'⟩ : ∃ n, n = O'.length := ⟨_, rfl⟩
  rw [← hln] at eg
  rw [← hlo] at eo
  rw [← hln'] at eg'
  rw [← hlo'] at eo'
  obtain ⟨X, hX⟩ : ∃ X, X = sameGs L L' := ⟨_, rfl⟩
  obtain ⟨Y, hY⟩ : ∃ Y, Y = sameFs O O' := ⟨_, rfl⟩
  obtain ⟨R, hR⟩ : ∃ R, R = sameSt f f' L L' O O' := ⟨_, rfl⟩
  have HR : Hid (R = (decide (f = f') && (X && Y))) := by show _ = _; rw [hR, hX, hY]; rfl
  have HX : Hid (∀ U, Below w.heap.size w U → Calls Tryz.prog 64 #[gv, gv'] U fun e w' => e = .returned (.bool X) ∧ Below U.heap.size U w') := fun U hU => by
    rw [hX]; exact sameGroups_any _ _ _ _ _ _ U (hg.below hU) (hg'.below hU)
  have HY : Hid (∀ U, Below w.heap.size w U → Calls Tryz.prog 35 #[ov, ov'] U fun e w' => e = .returned (.bool Y) ∧ Below U.heap.size U w') := fun U hU => by
    rw [hY]; exact sameFrames_any _ _ _ _ U (ho.below hU).frs (ho'.below hU).frs hol
  rw [← hR]
  clear hg ho hg' ho' hX hY hR hln hlo hln' hlo' hol
  subst eg eo eg' eo'
  go_enter Tryz.func19, Tryz.ntmps19
  obtain ⟨W0, hW0⟩ : ∃ W0, W0 = (w.alloc (.cells #[.int .i64 f, .slice ga ln gc, .slice oa lo oc] 27)).alloc (.cells #[.int .i64 f', .slice ga' ln' gc', .slice oa' lo' oc'] 27) := ⟨_, rfl⟩
  have HS0 : Hid (Stay W0 (fun U => Blk U w.heap.size #[.int .i64 f, .slice ga ln gc, .slice oa lo oc] 27 ∧ Blk U (w.heap.size + 1) #[.int .i64 f', .slice ga' ln' gc', .slice oa' lo' oc'] 27 ∧ Below w.heap.size w U)) := by
    have k2 := Blk.newE hW0
    simp only [World.size_alloc] at k2
    have hb : Below w.heap.size w W0 := by rw [hW0]; exact ((Below.refl _ _).alloc (Nat.le_refl _) _).alloc (by simp) _
    exact (show Blk W0 w.heap.size _ _ by rw [hW0]; exact (Blk.new _ _ _).alloc _).stay.and (k2.stay.and (below_stay hb hb.size))
  by_cases hf : f = f'
  · subst hf
    have HR2 : Hid (R = (X && Y)) := by show _ = _; rw [HR.out]; simp
    go_wp2_with fail
    rw [← hW0]
    clear hW0
    refine (HX.out _ HS0.out.now.2.2).mono ?_
    rintro e w1 ⟨rfl, b1⟩
    have HS1 := Stay.go HS0 b1
    obtain ⟨k0, k1, k2⟩ := HS1.out.now.1.three
    obtain ⟨j0, j1, j2⟩ := HS1.out.now.2.1.three
    clear b1 HS0
    cases X
    · have hr : R = false := HR2.out
      subst hr
      go_wp2_with fail
      go_ret
      exact ⟨rfl, HS1.out.now.2.2⟩
    · have hr : R = Y := by rw [HR2.out]; rfl
      subst hr
      go_wp2_with fail
      refine (HY.out _ HS1.out.now.2.2).mono ?_
      rintro e w2 ⟨rfl, b2⟩
      have HS2 := Stay.go HS1 b2
      clear b2 HS1
      go_wp2_with fail
      go_ret
      exact ⟨rfl, HS2.out.now.2.2⟩
  · have hr : R = false := by rw [HR.out]; simp [hf]
    subst hr
    have hb := HS0.out.now.2.2
    subst hW0
    go_wp2_with fail
    go_ret
    exact ⟨rfl, hb⟩

set_option maxHeartbeats 2000000 in
set_option maxRecDepth 100000 in
theorem storeIs_any (E f f' : Int) (gv ov gv' ov' : Value) (L L' : List (List Fr)) (O O' : List Fr) (w : World) (hg : GrsIn (fun _ => True) w gv L) (ho : FrsIn (fun _ => True) w ov O) (hg' : GrsIn (fun _ => True) w gv' L') (ho' : FrsIn (fun _ => True) w ov' O')
    (h0 : E = 0 → f = f' ∧ L = L' ∧ O = O') (h1 : ¬ E = 0 → f = 0 ∧ L = [] ∧ O = []) :
    Calls Tryz.prog 15 #[.agg #[.int .i64 f, gv, ov], .int .i64 E, .int .i64 E, .agg #[.int .i64 f', gv', ov']] w fun e w' => e = .returned (.bool true) ∧ Below w.heap.size w w' := by
  obtain ⟨ga, gc, eg, _, _⟩ := hg.len
  obtain ⟨oa, oc, eo, _, _⟩ := ho.len
  obtain ⟨ga', gc', eg', _, _⟩ := hg'.len
  obtain ⟨oa', oc', eo', _, _⟩ := ho'.len
  obtain ⟨ln, hln⟩ : ∃ n, n = L.length := ⟨_, rfl⟩
  obtain ⟨lo, hlo⟩ : ∃ n, n = O.length := ⟨_, rfl⟩
  obtain ⟨ln', hln'⟩ : ∃ n, n = L'.length := ⟨_, rfl⟩
  obtain ⟨lo', hlo'⟩ : ∃ n, n = O'.length := ⟨_, rfl⟩
  rw [← hln] at eg
  rw [← hlo] at eo
  rw [← hln'] at eg'
  rw [← hlo'] at eo'
  by_cases hE : E = 0
  · obtain ⟨e1, e2, e3⟩ := h0 hE
    have HS : Hid (∀ U, Below w.heap.size w U → Calls Tryz.prog 19 #[.agg #[.int .i64 f, gv, ov], .agg #[.int .i64 f', gv', ov']] U fun e w' => e = .returned (.bool true) ∧ Below U.heap.size U w') := fun U hU => by
      have := sameStore_any f f' gv ov gv' ov' L L' O O' U (hg.below hU) (ho.below hU) (hg'.below hU) (ho'.below hU)
      rw [e1, e2, e3, sameSt_self] at this
      rw [e1]
      exact this
    have HB : Hid (Below w.heap.size w ((w.alloc (.cells #[.int .i64 f, gv, ov] 27)).alloc (.cells #[.int .i64 f', gv', ov'] 27))) := ((Below.refl _ _).alloc (Nat.le_refl _) _).alloc (by simp) _
    clear hg ho hg' ho' h0 h1 e1 e2 e3 hln hlo hln' hlo'
    subst eg eo eg' eo' hE
    go_enter Tryz.func15, Tryz.ntmps15
    go_wp2_with fail
    refine (HS.out _ HB.out).mono ?_
    rintro e w1 ⟨rfl, b1⟩
    have B1 : Hid (Below w.heap.size w w1) := HB.out.trans (b1.mono HB.out.size)
    clear b1
    go_wp2_with fail
    go_ret
    exact ⟨rfl, B1.out⟩
  · obtain ⟨e1, e2, e3⟩ := h1 hE
    have HS : Hid (∀ U, Below w.heap.size w U → Calls Tryz.prog 19 #[.agg #[.int .i64 f, gv, ov], .agg #[.int .i64 0, .slice none 0 0, .slice none 0 0]] U fun e w' => e = .returned (.bool true) ∧ Below U.heap.size U w') := fun U hU => by
      have := sameStore_any f 0 gv ov (.slice none 0 0) (.slice none 0 0) L [] O [] U (hg.below hU) (ho.below hU) (GrsIn.nil _ _) (FrsIn.nil _ _)
      rw [e1, e2, e3, sameSt_self] at this
      rw [e1]
      exact this
    have HB : Hid (Below w.heap.size w ((w.alloc (.cells #[.int .i64 f, gv, ov] 27)).alloc (.cells #[.int .i64 0, .slice none 0 0, .slice none 0 0] 27))) := ((Below.refl _ _).alloc (Nat.le_refl _) _).alloc (by simp) _
    clear hg ho hg' ho' h0 h1 e1 e2 e3 hln hlo hln' hlo'
    subst eg eo eg' eo'
    go_enter Tryz.func15, Tryz.ntmps15
    go_wp2_with fail
    refine (HS.out _ HB.out).mono ?_
    rintro e w1 ⟨rfl, b1⟩
    have B1 : Hid (Below w.heap.size w w1) := HB.out.trans (b1.mono HB.out.size)
    clear b1
    go_wp2_with fail
    go_ret
    exact ⟨rfl, B1.out⟩

end Go.Proofs.YtnpaejknoipicafGreat

namespace Go.Proofs.YtnpaejknoipicafGreat
open Go.RowKit

def sameTr (t u : Tr) : Bool := (t.last == u.last) && ((t.next == u.next && sameB t.h u.h) && (sameB t.o u.o && sameSt t.first u.first t.L u.L t.O u.O))

set_option maxHeartbeats 8000000 in
set_option maxRecDepth 100000 in
theorem sameTrack_any (t u : Tr) (hv bv gv ov hv' bv' gv' ov' : Value) (w : World) (hr : TrIn (fun _ => True) w hv bv gv ov t) (hr' : TrIn (fun _ => True) w hv' bv' gv' ov' u) :
    Calls Tryz.prog 83 #[.agg #[.int .i64 t.last, .int .i64 t.next, hv, bv, .int .i64 t.first, gv, ov], .agg #[.int .i64 u.last, .int .i64 u.next, hv', bv', .int .i64 u.first, gv', ov']] w fun e w' => e = .returned (.bool (sameTr t u)) ∧ Below w.heap.size w w' := by
  obtain ⟨ha, hc, ba', bc, ga, gc, oa, oc, eh, eb, eg, eo⟩ := hr.slices
  obtain ⟨ha2, hc2, ba2, bc2, ga2, gc2, oa2, oc2, eh2, eb2, eg2, eo2⟩ := hr'.slices
  obtain ⟨B0, hB0⟩ : ∃ b, b = (t.last == u.last) := ⟨_, rfl⟩
  obtain ⟨B1, hB1⟩ : ∃ b, b = (t.next == u.next && sameB t.h u.h) := ⟨_, rfl⟩
  obtain ⟨B2, hB2⟩ : ∃ b, b = sameB t.o u.o := ⟨_, rfl⟩
  obtain ⟨B3, hB3⟩ : ∃ b, b = sameSt t.first u.first t.L u.L t.O u.O := ⟨_, rfl⟩
  have H1 : Hid (∀ U, Below w.heap.size w U → Calls Tryz.prog 126 #[.agg #[.int .i64 t.next, hv], .agg #[.int .i64 u.next, hv']] U fun e w' => e = .returned (.bool B1) ∧ Below U.heap.size U w') := fun U hU => by rw [hB1]; exact sameBuffer_any _ _ hv hv' t.h u.h U (hr.1.1.below hU) (hr'.1.1.below hU) hr.1.2.1
  have H2 : Hid (∀ U, Below w.heap.size w U → Calls Tryz.prog 127 #[bv, bv'] U fun e w' => e = .returned (.bool B2) ∧ Below U.heap.size U w') := fun U hU => by rw [hB2]; exact sameSlots_any bv bv' t.o u.o U (hr.2.1.1.below hU) (hr'.2.1.1.below hU) hr.2.1.2.1
  have H3 : Hid (∀ U, Below w.heap.size w U → Calls Tryz.prog 19 #[.agg #[.int .i64 t.first, gv, ov], .agg #[.int .i64 u.first, gv', ov']] U fun e w' => e = .returned (.bool B3) ∧ Below U.heap.size U w') := fun U hU => by rw [hB3]; exact sameStore_any _ _ gv ov gv' ov' t.L u.L t.O u.O U (hr.2.2.1.below hU) (hr.2.2.2.below hU) (hr'.2.2.1.below hU) (hr'.2.2.2.below hU)
  have HR : Hid (sameTr t u = (B0 && (B1 && (B2 && B3)))) := by show _ = _; rw [hB0, hB1, hB2, hB3]; rfl
  obtain ⟨R, hR⟩ : ∃ R, R = sameTr t u := ⟨_, rfl⟩
  rw [← hR] at HR ⊢
  obtain ⟨nh, hnh⟩ : ∃ n, n = t.h.length := ⟨_, rfl⟩
  obtain ⟨no, hno⟩ : ∃ n, n = t.o.length := ⟨_, rfl⟩
  obtain ⟨ng, hng⟩ : ∃ n, n = t.L.length := ⟨_, rfl⟩
  obtain ⟨nO, hnO⟩ : ∃ n, n = t.O.length := ⟨_, rfl⟩
  obtain ⟨mh, hmh⟩ : ∃ n, n = u.h.length := ⟨_, rfl⟩
  obtain ⟨mo, hmo⟩ : ∃ n, n = u.o.length := ⟨_, rfl⟩
  obtain ⟨mg, hmg⟩ : ∃ n, n = u.L.length := ⟨_, rfl⟩
  obtain ⟨mO, hmO⟩ : ∃ n, n = u.O.length := ⟨_, rfl⟩
  rw [← hnh] at eh
  rw [← hno] at eb
  rw [← hng] at eg
  rw [← hnO] at eo
  rw [← hmh] at eh2
  rw [← hmo] at eb2
  rw [← hmg] at eg2
  rw [← hmO] at eo2
  obtain ⟨last, hla⟩ : ∃ x, x = t.last := ⟨_, rfl⟩
  obtain ⟨next, hne⟩ : ∃ x, x = t.next := ⟨_, rfl⟩
  obtain ⟨first, hfi⟩ : ∃ x, x = t.first := ⟨_, rfl⟩
  obtain ⟨last2, hla2⟩ : ∃ x, x = u.last := ⟨_, rfl⟩
  obtain ⟨next2, hne2⟩ : ∃ x, x = u.next := ⟨_, rfl⟩
  obtain ⟨first2, hfi2⟩ : ∃ x, x = u.first := ⟨_, rfl⟩
  rw [← hla, ← hla2] at hB0
  rw [← hla, ← hne, ← hfi, ← hla2, ← hne2, ← hfi2]
  rw [← hne, ← hne2] at H1
  rw [← hfi, ← hfi2] at H3
  have hq : (last == last2) = B0 := hB0.symm
  clear hB0 hB1 hB2 hB3 hR hr hr' hla hne hfi hla2 hne2 hfi2 hnh hno hng hnO hmh hmo hmg hmO
  subst eh eb eg eo eh2 eb2 eg2 eo2
  go_enter Tryz.func83, Tryz.ntmps83
  obtain ⟨W, hW⟩ : ∃ W, W = (w.alloc (.cells #[.int .i64 last, .int .i64 next, .slice ha nh hc, .slice ba' no bc, .int .i64 first, .slice ga ng gc, .slice oa nO oc] 61)).alloc (.cells #[.int .i64 last2, .int .i64 next2, .slice ha2 mh hc2, .slice ba2 mo bc2, .int .i64 first2, .slice ga2 mg gc2, .slice oa2 mO oc2] 61) := ⟨_, rfl⟩
  have HS0 : Hid (Stay W (fun U => (Blk U w.heap.size #[.int .i64 last, .int .i64 next, .slice ha nh hc, .slice ba' no bc, .int .i64 first, .slice ga ng gc, .slice oa nO oc] 61 ∧ Blk U (w.heap.size + 1) #[.int .i64 last2, .int .i64 next2, .slice ha2 mh hc2, .slice ba2 mo bc2, .int .i64 first2, .slice ga2 mg gc2, .slice oa2 mO oc2] 61) ∧ Below w.heap.size w U)) := by
    have k1 := (Blk.new w #[.int .i64 last, .int .i64 next, .slice ha nh hc, .slice ba' no bc, .int .i64 first, .slice ga ng gc, .slice oa nO oc] 61)
    have k2 := Blk.new (w.alloc (.cells #[.int .i64 last, .int .i64 next, .slice ha nh hc, .slice ba' no bc, .int .i64 first, .slice ga ng gc, .slice oa nO oc] 61)) #[.int .i64 last2, .int .i64 next2, .slice ha2 mh hc2, .slice ba2 mo bc2, .int .i64 first2, .slice ga2 mg gc2, .slice oa2 mO oc2] 61
    rw [← hW] at k2
    have k1' := k1.below ((Below.refl _ _).alloc (Nat.le_refl _) (.cells #[.int .i64 last2, .int .i64 next2, .slice ha2 mh hc2, .slice ba2 mo bc2, .int .i64 first2, .slice ga2 mg gc2, .slice oa2 mO oc2] 61)) k1.lt
    rw [← hW] at k1'
    simp only [World.size_alloc] at k2
    have b : Below w.heap.size w W := by rw [hW]; exact ((Below.refl _ _).alloc (Nat.le_refl _) _).alloc (by simp) _
    exact ((k1'.stay.and k2.stay).and (below_stay b b.size))
  cases hb0 : B0
  case false =>
    rw [hb0] at hq HR
    have BW := HS0.out.now.2
    rw [hW] at BW
    clear H1 H2 H3 HS0
    go_wp2
    go_ret
    rw [HR.out]
    exact ⟨rfl, BW⟩
  rw [hb0] at hq HR
  have BW : Hid (Below w.heap.size w W) := HS0.out.now.2
  go_wp2_with fail
  rw [← hW]
  clear hW
  refine (H1.out W BW.out).mono ?_
  rintro e w1 ⟨rfl, b1⟩
  have HS1 := Stay.go HS0 b1
  clear b1 HS0 BW H1
  have BW : Hid (Below w.heap.size w w1) := HS1.out.now.2
  cases hb1 : B1
  case false =>
    rw [hb1] at HR
    clear HS1 H2 H3
    go_wp2
    go_ret
    rw [HR.out]
    exact ⟨rfl, BW.out⟩
  rw [hb1] at HR
  obtain ⟨y0, y1, y2, y3, y4, y5, y6⟩ := HS1.out.now.1.1.sevenc
  obtain ⟨z0, z1, z2, z3, z4, z5, z6⟩ := HS1.out.now.1.2.sevenc
  go_wp2_with fail
  refine (H2.out w1 BW.out).mono ?_
  rintro e w2 ⟨rfl, b1⟩
  have HS2 := Stay.go HS1 b1
  clear b1 HS1 BW H2 y0 y1 y2 y3 y4 y5 y6 z0 z1 z2 z3 z4 z5 z6
  have BW : Hid (Below w.heap.size w w2) := HS2.out.now.2
  cases hb2 : B2
  case false =>
    rw [hb2] at HR
    clear HS2 H3
    go_wp2
    go_ret
    rw [HR.out]
    exact ⟨rfl, BW.out⟩
  rw [hb2] at HR
  obtain ⟨y0, y1, y2, y3, y4, y5, y6⟩ := HS2.out.now.1.1.sevenc
  obtain ⟨z0, z1, z2, z3, z4, z5, z6⟩ := HS2.out.now.1.2.sevenc
  go_wp2_with fail
  refine (H3.out w2 BW.out).mono ?_
  rintro e w3 ⟨rfl, b1⟩
  have BW3 : Hid (Below w.heap.size w w3) := BW.out.trans (b1.mono BW.out.size)
  clear b1 BW HS2 H3 y0 y1 y2 y3 y4 y5 y6 z0 z1 z2 z3 z4 z5 z6
  go_wp2
  go_ret
  rw [HR.out]
  exact ⟨by cases B3 <;> rfl, BW3.out⟩

end Go.Proofs.YtnpaejknoipicafGreat

namespace Go.Proofs.YtnpaejknoipicafGreat
open Go.RowKit Go.Sort

theorem sameTr_same (t : Tr) : sameTr t t = true := by simp [sameTr, (sameB_iff _ _).2 rfl, sameSt_self]

set_option maxHeartbeats 8000000 in
set_option maxRecDepth 100000 in
theorem trackIs_true (A B : Tr) (cl k : Nat) (E : Int) (la1 ne1 : Int) (ha1 : Option Addr) (hn1 hc1 : Nat) (oa1 : Option Addr) (on1 oc1 : Nat) (fi1 : Int) (ga1 : Option Addr) (gn1 gc1 : Nat) (pa1 : Option Addr) (pn1 pc1 : Nat) (la2 ne2 : Int) (ha2 : Option Addr) (hn2 hc2 : Nat) (oa2 : Option Addr) (on2 oc2 : Nat) (fi2 : Int) (ga2 : Option Addr) (gn2 gc2 : Nat) (pa2 : Option Addr) (pn2 pc2 : Nat) (w : World)
    (hA : (la1 = A.last ∧ ne1 = A.next ∧ fi1 = A.first ∧ gn1 = A.L.length)) (hB : (la2 = B.last ∧ ne2 = B.next ∧ fi2 = B.first ∧ gn2 = B.L.length)) (h1 : TrIn (fun _ => True) w (.slice ha1 hn1 hc1) (.slice oa1 on1 oc1) (.slice ga1 gn1 gc1) (.slice pa1 pn1 pc1) A) (h2 : TrIn (fun _ => True) w (.slice ha2 hn2 hc2) (.slice oa2 on2 oc2) (.slice ga2 gn2 gc2) (.slice pa2 pn2 pc2) B) (hgood : E = 0 → B = A ∧ k = cl) (hbad : ¬ E = 0 → A = Tr.zero ∧ cl = 0) :
    Calls Tryz.prog 30 #[.agg #[.int .i64 la1, .int .i64 ne1, .slice ha1 hn1 hc1, .slice oa1 on1 oc1, .int .i64 fi1, .slice ga1 gn1 gc1, .slice pa1 pn1 pc1], .int .i64 cl, .int .i64 E, .int .i64 E, .agg #[.int .i64 la2, .int .i64 ne2, .slice ha2 hn2 hc2, .slice oa2 on2 oc2, .int .i64 fi2, .slice ga2 gn2 gc2, .slice pa2 pn2 pc2], .int .i64 k] w fun e w' => e = .returned (.bool true) ∧ Below w.heap.size w w' := by
  obtain ⟨M, hM⟩ : ∃ x, x = w.heap.size := ⟨_, rfl⟩
  obtain ⟨V, hV⟩ : ∃ V, V = (w.alloc (.cells #[.int .i64 la1, .int .i64 ne1, .slice ha1 hn1 hc1, .slice oa1 on1 oc1, .int .i64 fi1, .slice ga1 gn1 gc1, .slice pa1 pn1 pc1] 61)).alloc (.cells #[.int .i64 la2, .int .i64 ne2, .slice ha2 hn2 hc2, .slice oa2 on2 oc2, .int .i64 fi2, .slice ga2 gn2 gc2, .slice pa2 pn2 pc2] 61) := ⟨_, rfl⟩
  have HB : Hid (Below M w V) := by show Below M w V; rw [hV, hM]; exact ((Below.refl _ w).alloc (Nat.le_refl _) _).alloc (by simp) _
  have HM1 : Hid (Blk V M #[.int .i64 la1, .int .i64 ne1, .slice ha1 hn1 hc1, .slice oa1 on1 oc1, .int .i64 fi1, .slice ga1 gn1 gc1, .slice pa1 pn1 pc1] 61) := by
    have := (Blk.new w #[.int .i64 la1, .int .i64 ne1, .slice ha1 hn1 hc1, .slice oa1 on1 oc1, .int .i64 fi1, .slice ga1 gn1 gc1, .slice pa1 pn1 pc1] 61).alloc (.cells #[.int .i64 la2, .int .i64 ne2, .slice ha2 hn2 hc2, .slice oa2 on2 oc2, .int .i64 fi2, .slice ga2 gn2 gc2, .slice pa2 pn2 pc2] 61)
    rw [← hV, ← hM] at this
    exact this
  have HM2 : Hid (Blk V (M + 1) #[.int .i64 la2, .int .i64 ne2, .slice ha2 hn2 hc2, .slice oa2 on2 oc2, .int .i64 fi2, .slice ga2 gn2 gc2, .slice pa2 pn2 pc2] 61) := by
    have := Blk.new (w.alloc (.cells #[.int .i64 la1, .int .i64 ne1, .slice ha1 hn1 hc1, .slice oa1 on1 oc1, .int .i64 fi1, .slice ga1 gn1 gc1, .slice pa1 pn1 pc1] 61)) #[.int .i64 la2, .int .i64 ne2, .slice ha2 hn2 hc2, .slice oa2 on2 oc2, .int .i64 fi2, .slice ga2 gn2 gc2, .slice pa2 pn2 pc2] 61
    rw [World.size_alloc, ← hV, ← hM] at this
    exact this
  have h1' : TrIn (fun g => g < M) w (.slice ha1 hn1 hc1) (.slice oa1 on1 oc1) (.slice ga1 gn1 gc1) (.slice pa1 pn1 pc1) A := h1.mono fun g h _ => by rw [hM]; exact h
  have h2' : TrIn (fun g => g < M) w (.slice ha2 hn2 hc2) (.slice oa2 on2 oc2) (.slice ga2 gn2 gc2) (.slice pa2 pn2 pc2) B := h2.mono fun g h _ => by rw [hM]; exact h
  have hBB : Below w.heap.size w V := by rw [← hM]; exact HB.out
  have H1 : Hid (TrIn (fun g => g < M) V (.slice ha1 hn1 hc1) (.slice oa1 on1 oc1) (.slice ga1 gn1 gc1) (.slice pa1 pn1 pc1) A) := h1'.below hBB
  have H2 : Hid (TrIn (fun g => g < M) V (.slice ha2 hn2 hc2) (.slice oa2 on2 oc2) (.slice ga2 gn2 gc2) (.slice pa2 pn2 pc2) B) := h2'.below hBB
  rw [← hM]
  have HA : Hid (la1 = A.last ∧ ne1 = A.next ∧ fi1 = A.first ∧ gn1 = A.L.length) := hA
  have HB2 : Hid (la2 = B.last ∧ ne2 = B.next ∧ fi2 = B.first ∧ gn2 = B.L.length) := hB
  have HGD : Hid (E = 0 → B = A ∧ k = cl) := hgood
  have HBD : Hid (¬ E = 0 → A = Tr.zero ∧ cl = 0) := hbad
  clear h1 h2 h1' h2' hBB hA hB hgood hbad
  obtain ⟨y0, y1, y2, y3, y4, y5, y6⟩ := HM1.out.sevenc
  obtain ⟨z0, z1, z2, z3, z4, z5, z6⟩ := HM2.out.sevenc
  have fM := HM2.out.free
  have lM := HM2.out.lt
  go_enter Tryz.func30, Tryz.ntmps30
  go_upto_region 1 with fail
  rw [← hV]
  try rw [← hM]
  clear hV hM
  by_cases hE : E = 0
  · obtain ⟨e1, e2⟩ := HGD.out hE
    have HSAME : Hid (Calls Tryz.prog 83 #[.agg #[.int .i64 la1, .int .i64 ne1, .slice ha1 hn1 hc1, .slice oa1 on1 oc1, .int .i64 fi1, .slice ga1 gn1 gc1, .slice pa1 pn1 pc1], .agg #[.int .i64 la2, .int .i64 ne2, .slice ha2 hn2 hc2, .slice oa2 on2 oc2, .int .i64 fi2, .slice ga2 gn2 gc2, .slice pa2 pn2 pc2]] V fun e w' => e = .returned (.bool true) ∧ Below V.heap.size V w') := by
      have q := sameTrack_any A B _ _ _ _ _ _ _ _ V (H1.out.mono fun _ _ _ => trivial) (H2.out.mono fun _ _ _ => trivial)
      have es : sameTr A B = true := by rw [e1]; exact sameTr_same A
      rw [es, ← HA.out.1, ← HA.out.2.1, ← HA.out.2.2.1, ← HB2.out.1, ← HB2.out.2.1, ← HB2.out.2.2.1] at q
      exact q
    subst hE e2
    clear HGD HBD H1 H2 HA HB2 e1 HM1 HM2
    go_wp2_with fail
    refine HSAME.out.mono ?_
    rintro e w9 ⟨rfl, c9⟩
    have BW9 : Hid (Below M w w9) := HB.out.trans (c9.mono (by omega))
    clear c9
    go_wp2
    go_ret
    exact ⟨rfl, BW9.out⟩
  · obtain ⟨e1, e2⟩ := HBD.out hE
    obtain ⟨W7, hW7⟩ : ∃ W, W = ((((((V.setCell ⟨M + 1, 0, none⟩ (.int .i64 0)).setCell ⟨M + 1, 1, none⟩ (.int .i64 0)).setCell ⟨M + 1, 2, none⟩ (.slice none 0 0)).setCell ⟨M + 1, 3, none⟩ (.slice none 0 0)).setCell ⟨M + 1, 4, none⟩ (.int .i64 0)).setCell ⟨M + 1, 5, none⟩ (.slice none 0 0)).setCell ⟨M + 1, 6, none⟩ (.slice none 0 0) := ⟨_, rfl⟩
    have hk7 : Kept [M + 1] V W7 := by
      rw [hW7]
      exact (((((((Kept.refl [M + 1] V).setCell (p := ⟨M + 1, 0, none⟩) (by simp) _).setCell (p := ⟨M + 1, 1, none⟩) (by simp) _).setCell (p := ⟨M + 1, 2, none⟩) (by simp) _).setCell (p := ⟨M + 1, 3, none⟩) (by simp) _).setCell (p := ⟨M + 1, 4, none⟩) (by simp) _).setCell (p := ⟨M + 1, 5, none⟩) (by simp) _).setCell (p := ⟨M + 1, 6, none⟩) (by simp) _
    have HZ7 : Hid (Blk W7 (M + 1) #[.int .i64 0, .int .i64 0, .slice none 0 0, .slice none 0 0, .int .i64 0, .slice none 0 0, .slice none 0 0] 61) := by
      have := ((((((HM2.out.set 0 (.int .i64 0)).set 1 (.int .i64 0)).set 2 (.slice none 0 0)).set 3 (.slice none 0 0)).set 4 (.int .i64 0)).set 5 (.slice none 0 0)).set 6 (.slice none 0 0)
      rw [hW7]; simpa [Hid] using this
    have HM7 : Hid (Blk W7 M #[.int .i64 la1, .int .i64 ne1, .slice ha1 hn1 hc1, .slice oa1 on1 oc1, .int .i64 fi1, .slice ga1 gn1 gc1, .slice pa1 pn1 pc1] 61) := HM1.out.kept hk7 (by simp)
    have HB7 : Hid (Below M w W7) := HB.out.trans (hk7.toBelow (by omega) (by simp))
    have H17 : Hid (TrIn (fun g => g < M) W7 (.slice ha1 hn1 hc1) (.slice oa1 on1 oc1) (.slice ga1 gn1 gc1) (.slice pa1 pn1 pc1) A) := H1.out.to ⟨hk7.size, fun g hg hs => hk7.block g hg (by simp; omega)⟩ (fun _ _ h => h)
    have HSAME : Hid (Calls Tryz.prog 83 #[.agg #[.int .i64 la1, .int .i64 ne1, .slice ha1 hn1 hc1, .slice oa1 on1 oc1, .int .i64 fi1, .slice ga1 gn1 gc1, .slice pa1 pn1 pc1], .agg #[.int .i64 0, .int .i64 0, .slice none 0 0, .slice none 0 0, .int .i64 0, .slice none 0 0, .slice none 0 0]] W7 fun e w' => e = .returned (.bool true) ∧ Below W7.heap.size W7 w') := by
      have q := sameTrack_any A Tr.zero _ _ _ _ _ _ _ _ W7 (H17.out.mono fun _ _ _ => trivial) (TrIn.zero _ W7)
      have es : sameTr A Tr.zero = true := by rw [e1]; exact sameTr_same _
      rw [es, ← HA.out.1, ← HA.out.2.1, ← HA.out.2.2.1] at q
      exact q
    subst e2
    clear HGD HBD H1 H2 HA HB2 e1 HM1 HM2 H17 HB
    go_upto_region 3 with fail
    rw [← hW7]
    clear hW7 y0 y1 y2 y3 y4 y5 y6 z0 z1 z2 z3 z4 z5 z6 fM lM
    obtain ⟨y0, y1, y2, y3, y4, y5, y6⟩ := HM7.out.sevenc
    obtain ⟨z0, z1, z2, z3, z4, z5, z6⟩ := HZ7.out.sevenc
    have hs7 := HZ7.out.lt
    clear hk7
    go_wp2_with fail
    refine HSAME.out.mono ?_
    rintro e w9 ⟨rfl, c9⟩
    have BW9 : Hid (Below M w w9) := HB7.out.trans (c9.mono (by omega))
    clear c9
    go_wp2
    go_ret
    exact ⟨rfl, BW9.out⟩

end Go.Proofs.YtnpaejknoipicafGreat

namespace Go.Proofs.YtnpaejknoipicafGreat
open Go.RowKit Go.Sort

set_option maxHeartbeats 16000000 in
set_option maxRecDepth 100000 in
theorem trackTells_law (t : Tr) (hv bv gv ov : Value) (l : List UInt8) (w : World) (hr0 : TrIn (fun _ => True) w hv bv gv ov t) (hcap : ∀ a n c, hv = .slice a n c → n ≤ c) :
    Calls Tryz.prog 4 #[.agg #[.int .i64 t.last, .int .i64 t.next, hv, bv, .int .i64 t.first, gv, ov], .string (ba l)] w fun e w' => e = .returned (.bool true) ∧ Below w.heap.size w w' := by
  obtain ⟨A, ca, ea, hA⟩ : ∃ A cl er, feedA t l = (A, cl, er) := ⟨_, _, _, rfl⟩
  obtain ⟨B, cb, eb, hB⟩ : ∃ A cl er, drainA t = (A, cl, er) := ⟨_, _, _, rfl⟩
  obtain ⟨C, cc, ec, hC⟩ : ∃ A cl er, feedR t l = (A, cl, er) := ⟨_, _, _, rfl⟩
  obtain ⟨D, cd, ed, hD⟩ : ∃ A cl er, drainR t = (A, cl, er) := ⟨_, _, _, rfl⟩
  obtain ⟨E, hE⟩ : ∃ E, E = t.chk := ⟨_, rfl⟩
  have HABad : Hid (¬ ea = 0 → A = Tr.zero ∧ ca = 0) := fun h => by
    have q := feedA_bad (t := t) (s := l)
    rw [hA] at q; exact q h
  have HBBad : Hid (¬ eb = 0 → B = Tr.zero ∧ cb = 0) := fun h => by
    have q := drainA_bad (t := t)
    rw [hB] at q; exact q h
  have HE0 : Hid (E = 0 → C = A ∧ cc = ca ∧ ec = ea ∧ D = B ∧ cd = cb ∧ ed = eb) := fun h => by
    have h1 : feedA t l = feedR t l := by unfold feedA; rw [if_pos (hE.symm.trans h)]
    have h2 : drainA t = drainR t := by unfold drainA; rw [if_pos (hE.symm.trans h)]
    rw [hA, hC] at h1
    rw [hB, hD] at h2
    injection h1 with a1 a2
    injection a2 with a2 a3
    injection h2 with b1 b2
    injection b2 with b2 b3
    exact ⟨a1.symm, a2.symm, a3.symm, b1.symm, b2.symm, b3.symm⟩
  have HE1 : Hid (¬ E = 0 → ea = E ∧ eb = E) := fun h => by
    have h1 : feedA t l = (Tr.zero, 0, t.chk) := by unfold feedA; rw [if_neg (by rw [← hE]; exact h)]
    have h2 : drainA t = (Tr.zero, 0, t.chk) := by unfold drainA; rw [if_neg (by rw [← hE]; exact h)]
    rw [hA] at h1
    rw [hB] at h2
    injection h1 with a1 a2
    injection a2 with a2 a3
    injection h2 with b1 b2
    injection b2 with b2 b3
    rw [hE]; exact ⟨a3, b3⟩
  obtain ⟨X, hX⟩ : ∃ X, X = w.heap.size := ⟨_, rfl⟩
  have hr : TrIn (fun g => g < X) w hv bv gv ov t := hr0.mono fun g h _ => by rw [hX]; exact h
  have HF1 : Hid (∀ U, Below X w U → Calls Tryz.prog 23 #[.agg #[.int .i64 t.last, .int .i64 t.next, hv, bv, .int .i64 t.first, gv, ov], .string (ba l)] U fun e w' => ∃ la1 ne1 ha1 hn1 hc1 oa1 on1 oc1 fi1 ga1 gn1 gc1 pa1 pn1 pc1, e = .returned (.tuple #[.agg #[.int .i64 la1, .int .i64 ne1, .slice ha1 hn1 hc1, .slice oa1 on1 oc1, .int .i64 fi1, .slice ga1 gn1 gc1, .slice pa1 pn1 pc1], .int .i64 ca, .int .i64 ea]) ∧ Hid (la1 = A.last ∧ ne1 = A.next ∧ fi1 = A.first ∧ gn1 = A.L.length) ∧ Hid (TrIn (fun g => U.heap.size ≤ g) w' (.slice ha1 hn1 hc1) (.slice oa1 on1 oc1) (.slice ga1 gn1 gc1) (.slice pa1 pn1 pc1) A) ∧ Below U.heap.size U w') := fun U hU => begFeed t A l ca ea _ _ _ _ _ _ _ _ U hA rfl rfl rfl (hr.below (by rw [← hX]; exact hU))
  have HF2 : Hid (∀ U, Below X w U → Calls Tryz.prog 24 #[.agg #[.int .i64 t.last, .int .i64 t.next, hv, bv, .int .i64 t.first, gv, ov]] U fun e w' => ∃ la2 ne2 ha2 hn2 hc2 oa2 on2 oc2 fi2 ga2 gn2 gc2 pa2 pn2 pc2, e = .returned (.tuple #[.agg #[.int .i64 la2, .int .i64 ne2, .slice ha2 hn2 hc2, .slice oa2 on2 oc2, .int .i64 fi2, .slice ga2 gn2 gc2, .slice pa2 pn2 pc2], .int .i64 cb, .int .i64 eb]) ∧ Hid (la2 = B.last ∧ ne2 = B.next ∧ fi2 = B.first ∧ gn2 = B.L.length) ∧ Hid (TrIn (fun g => U.heap.size ≤ g) w' (.slice ha2 hn2 hc2) (.slice oa2 on2 oc2) (.slice ga2 gn2 gc2) (.slice pa2 pn2 pc2) B) ∧ Below U.heap.size U w') := fun U hU => begDrain t B cb eb _ _ _ _ _ _ _ _ U hB rfl rfl rfl (hr.below (by rw [← hX]; exact hU))
  have HCR : Hid (∀ U, Below X w U → Calls Tryz.prog 25 #[.agg #[.int .i64 t.last, .int .i64 t.next, hv, bv, .int .i64 t.first, gv, ov]] U fun e w' => e = .returned (.int .i64 E) ∧ Below U.heap.size U w') := fun U hU => by
    rw [hE]; exact refCheckTrack_any t _ _ _ _ U ((hr.below (by rw [← hX]; exact hU)).mono fun _ _ _ => trivial)
  have HCP : Hid (∀ U, Below X w U → Calls Tryz.prog 29 #[.agg #[.int .i64 t.last, .int .i64 t.next, hv, bv, .int .i64 t.first, gv, ov]] U fun e w' => e = .returned (.int .i64 E) ∧ Below U.heap.size U w') := fun U hU => by
    rw [hE]; exact trkCheck_any (fun _ => True) t _ _ _ _ U ((hr.below (by rw [← hX]; exact hU)).mono fun _ _ _ => trivial)
  have HF3 : Hid (E = 0 → ∀ (Z : Nat) U, Below X w U → X ≤ Z → Z + 2 ≤ U.heap.size → Calls Tryz.prog 26 #[.agg #[.int .i64 t.last, .int .i64 t.next, hv, bv, .int .i64 t.first, gv, ov], .string (ba l)] U fun e w' => ∃ la3 ne3 ha3 hn3 hc3 oa3 on3 oc3 fi3 ga3 gn3 gc3 pa3 pn3 pc3, e = .returned (.tuple #[.agg #[.int .i64 la3, .int .i64 ne3, .slice ha3 hn3 hc3, .slice oa3 on3 oc3, .int .i64 fi3, .slice ga3 gn3 gc3, .slice pa3 pn3 pc3], .int .i64 cc, .int .i64 ec]) ∧ Hid (la3 = C.last ∧ ne3 = C.next ∧ fi3 = C.first ∧ gn3 = C.L.length) ∧ Hid (TrIn (fun g => g ≠ Z ∧ g ≠ Z + 1) w' (.slice ha3 hn3 hc3) (.slice oa3 on3 oc3) (.slice ga3 gn3 gc3) (.slice pa3 pn3 pc3) C) ∧ Below U.heap.size U w') := fun h Z U hU hZ hZ2 => by
    refine (refFeedOf_in (fun g => g ≠ Z ∧ g ≠ Z + 1) t l _ _ _ _ U ((hr.below (by rw [← hX]; exact hU)).mono fun g _ h => ⟨by omega, by omega⟩) (fun g hg => ⟨by omega, by omega⟩) (hE.symm.trans h)).mono ?_
    rw [hC]
    rintro e w' ⟨x1, x2, x3, x4, rfl, q, b⟩
    obtain ⟨a1, c1, a2, c2, a3, c3, a4, c4, e1, e2, e3, e4⟩ := q.slices
    subst e1 e2 e3 e4
    exact ⟨_, _, _, _, _, _, _, _, _, _, _, _, _, _, _, rfl, ⟨rfl, rfl, rfl, rfl⟩, q, b⟩
  have HF4 : Hid (E = 0 → ∀ (Z : Nat) U, Below X w U → X ≤ Z → Z + 2 ≤ U.heap.size → Calls Tryz.prog 27 #[.agg #[.int .i64 t.last, .int .i64 t.next, hv, bv, .int .i64 t.first, gv, ov]] U fun e w' => ∃ la4 ne4 ha4 hn4 hc4 oa4 on4 oc4 fi4 ga4 gn4 gc4 pa4 pn4 pc4, e = .returned (.tuple #[.agg #[.int .i64 la4, .int .i64 ne4, .slice ha4 hn4 hc4, .slice oa4 on4 oc4, .int .i64 fi4, .slice ga4 gn4 gc4, .slice pa4 pn4 pc4], .int .i64 cd, .int .i64 ed]) ∧ Hid (la4 = D.last ∧ ne4 = D.next ∧ fi4 = D.first ∧ gn4 = D.L.length) ∧ Hid (TrIn (fun g => g ≠ Z ∧ g ≠ Z + 1) w' (.slice ha4 hn4 hc4) (.slice oa4 on4 oc4) (.slice ga4 gn4 gc4) (.slice pa4 pn4 pc4) D) ∧ Below U.heap.size U w') := fun h Z U hU hZ hZ2 => by
    refine (refDrainOf_in (fun g => g ≠ Z ∧ g ≠ Z + 1) t _ _ _ _ U ((hr.below (by rw [← hX]; exact hU)).mono fun g _ h => ⟨by omega, by omega⟩) (fun g hg => ⟨by omega, by omega⟩) (hE.symm.trans h) hcap).mono ?_
    rw [hD]
    rintro e w' ⟨x1, x2, x3, x4, rfl, q, b⟩
    obtain ⟨a1, c1, a2, c2, a3, c3, a4, c4, e1, e2, e3, e4⟩ := q.slices
    subst e1 e2 e3 e4
    exact ⟨_, _, _, _, _, _, _, _, _, _, _, _, _, _, _, rfl, ⟨rfl, rfl, rfl, rfl⟩, q, b⟩
  obtain ⟨ha, hc, ba0, bc, ga, gc, oa, oc, eh, eb0, eg, eo⟩ := hr.slices
  obtain ⟨nh, hnh⟩ : ∃ n, n = t.h.length := ⟨_, rfl⟩
  obtain ⟨no, hno⟩ : ∃ n, n = t.o.length := ⟨_, rfl⟩
  obtain ⟨ng, hng⟩ : ∃ n, n = t.L.length := ⟨_, rfl⟩
  obtain ⟨nO, hnO⟩ : ∃ n, n = t.O.length := ⟨_, rfl⟩
  rw [← hnh] at eh
  rw [← hno] at eb0
  rw [← hng] at eg
  rw [← hnO] at eo
  obtain ⟨last, hla⟩ : ∃ x, x = t.last := ⟨_, rfl⟩
  obtain ⟨next, hne⟩ : ∃ x, x = t.next := ⟨_, rfl⟩
  obtain ⟨first, hfi⟩ : ∃ x, x = t.first := ⟨_, rfl⟩
  rw [← hla, ← hne, ← hfi] at HF1 HF2 HF3 HF4 HCR HCP ⊢
  obtain ⟨W0, hW0⟩ : ∃ V, V = w.alloc (.cells #[.int .i64 last, .int .i64 next, hv, bv, .int .i64 first, gv, ov] 61) := ⟨_, rfl⟩
  have HS0 : Hid (Stay W0 (fun U => (Blk U X #[.int .i64 last, .int .i64 next, hv, bv, .int .i64 first, gv, ov] 61 ∧ TrIn (fun g => g < X) U hv bv gv ov t) ∧ Below X w U)) := by
    have k0 := Blk.newE hW0
    have b : Below w.heap.size w W0 := by rw [hW0]; exact (Below.refl _ w).alloc (Nat.le_refl _) _
    have ht := hr.below b
    rw [← hX] at k0 b
    exact (k0.stay.and ht.stay).and (below_stay b (by rw [hX] at b ⊢; exact b.size))
  have HXe : Hid (X = w.heap.size) := hX
  rw [← hX]
  clear hr hr0 hA hB hC hD hE hla hne hfi hnh hno hng hnO hcap
  subst eh eb0 eg eo
  go_enter Tryz.func4, Tryz.ntmps4
  obtain ⟨y0, y1, y2, y3, y4, y5, y6⟩ := HS0.out.now.1.1.sevenc
  go_upto_region 1 with fail
  rw [← hW0]
  rw [← hX]
  clear hW0 hX
  go_wp2_with fail
  refine (HF1.out W0 HS0.out.now.2).mono ?_
  rintro e w1 ⟨la1, ne1, ha1, hn1, hc1, oa1, on1, oc1, fi1, ga1, gn1, gc1, pa1, pn1, pc1, rfl, G1, T1, c1⟩
  have HS1 := Stay.go HS0 c1
  clear c1 HS0 HF1 y0 y1 y2 y3 y4 y5 y6
  obtain ⟨bA, hbA⟩ : ∃ x, x = w1.heap.size := ⟨_, rfl⟩
  obtain ⟨V1, hV1⟩ : ∃ V, V = w1.alloc (.cells #[.int .i64 la1, .int .i64 ne1, .slice ha1 hn1 hc1, .slice oa1 on1 oc1, .int .i64 fi1, .slice ga1 gn1 gc1, .slice pa1 pn1 pc1] 61) := ⟨_, rfl⟩
  have HS2 : Hid (Stay V1 (fun U => ((Blk U X #[.int .i64 last, .int .i64 next, .slice ha nh hc, .slice ba0 no bc, .int .i64 first, .slice ga ng gc, .slice oa nO oc] 61 ∧ TrIn (fun g => g < X) U (.slice ha nh hc) (.slice ba0 no bc) (.slice ga ng gc) (.slice oa nO oc) t) ∧ Below X w U) ∧ (Blk U bA #[.int .i64 la1, .int .i64 ne1, .slice ha1 hn1 hc1, .slice oa1 on1 oc1, .int .i64 fi1, .slice ga1 gn1 gc1, .slice pa1 pn1 pc1] 61 ∧ TrIn (fun g => g < bA) U (.slice ha1 hn1 hc1) (.slice oa1 on1 oc1) (.slice ga1 gn1 gc1) (.slice pa1 pn1 pc1) A))) := by
    have q : TrIn (fun g => g < bA) V1 (.slice ha1 hn1 hc1) (.slice oa1 on1 oc1) (.slice ga1 gn1 gc1) (.slice pa1 pn1 pc1) A := by rw [hV1]; exact (T1.out.mono (S' := fun g => g < bA) fun g h _ => by rw [hbA]; exact h).to (SameOn.alloc _) fun _ _ h => h
    have k := Blk.newE hV1
    rw [← hbA] at k
    exact (Stay.allocE HS1.out hV1).out.and (k.stay.and q.stay)
  clear T1 HS1
  obtain ⟨y0, y1, y2, y3, y4, y5, y6⟩ := HS2.out.now.1.1.1.sevenc
  go_upto_region 2 with fail
  rw [← hV1]
  try rw [← hbA]
  clear hV1 hbA
  go_wp2_with fail
  refine (HF2.out V1 HS2.out.now.1.2).mono ?_
  rintro e w2 ⟨la2, ne2, ha2, hn2, hc2, oa2, on2, oc2, fi2, ga2, gn2, gc2, pa2, pn2, pc2, rfl, G2, T2, c2⟩
  have HS3 := Stay.go HS2 c2
  clear c2 HS2 HF2 y0 y1 y2 y3 y4 y5 y6
  obtain ⟨bB, hbB⟩ : ∃ x, x = w2.heap.size := ⟨_, rfl⟩
  obtain ⟨V2, hV2⟩ : ∃ V, V = w2.alloc (.cells #[.int .i64 la2, .int .i64 ne2, .slice ha2 hn2 hc2, .slice oa2 on2 oc2, .int .i64 fi2, .slice ga2 gn2 gc2, .slice pa2 pn2 pc2] 61) := ⟨_, rfl⟩
  have HS4 : Hid (Stay V2 (fun U => (((Blk U X #[.int .i64 last, .int .i64 next, .slice ha nh hc, .slice ba0 no bc, .int .i64 first, .slice ga ng gc, .slice oa nO oc] 61 ∧ TrIn (fun g => g < X) U (.slice ha nh hc) (.slice ba0 no bc) (.slice ga ng gc) (.slice oa nO oc) t) ∧ Below X w U) ∧ (Blk U bA #[.int .i64 la1, .int .i64 ne1, .slice ha1 hn1 hc1, .slice oa1 on1 oc1, .int .i64 fi1, .slice ga1 gn1 gc1, .slice pa1 pn1 pc1] 61 ∧ TrIn (fun g => g < bA) U (.slice ha1 hn1 hc1) (.slice oa1 on1 oc1) (.slice ga1 gn1 gc1) (.slice pa1 pn1 pc1) A)) ∧ (Blk U bB #[.int .i64 la2, .int .i64 ne2, .slice ha2 hn2 hc2, .slice oa2 on2 oc2, .int .i64 fi2, .slice ga2 gn2 gc2, .slice pa2 pn2 pc2] 61 ∧ TrIn (fun g => g < bB) U (.slice ha2 hn2 hc2) (.slice oa2 on2 oc2) (.slice ga2 gn2 gc2) (.slice pa2 pn2 pc2) B))) := by
    have q : TrIn (fun g => g < bB) V2 (.slice ha2 hn2 hc2) (.slice oa2 on2 oc2) (.slice ga2 gn2 gc2) (.slice pa2 pn2 pc2) B := by rw [hV2]; exact (T2.out.mono (S' := fun g => g < bB) fun g h _ => by rw [hbB]; exact h).to (SameOn.alloc _) fun _ _ h => h
    have k := Blk.newE hV2
    rw [← hbB] at k
    exact (Stay.allocE HS3.out hV2).out.and (k.stay.and q.stay)
  clear T2 HS3
  obtain ⟨y0, y1, y2, y3, y4, y5, y6⟩ := HS4.out.now.1.1.1.1.sevenc
  go_upto_region 3 with fail
  rw [← hV2]
  try rw [← hbB]
  clear hV2 hbB
  go_wp2_with fail
  refine (HCR.out V2 HS4.out.now.1.1.2).mono ?_
  rintro e w3 ⟨rfl, c3⟩
  have HS5 := Stay.go HS4 c3
  clear c3 HS4 y0 y1 y2 y3 y4 y5 y6
  obtain ⟨Z, hZ⟩ : ∃ x, x = w3.heap.size := ⟨_, rfl⟩
  obtain ⟨V3, hV3⟩ : ∃ V, V = (w3.alloc (.cells #[.int .i64 0, .int .i64 0, .slice none 0 0, .slice none 0 0, .int .i64 0, .slice none 0 0, .slice none 0 0] 61)).alloc (.cells #[.int .i64 0, .int .i64 0, .slice none 0 0, .slice none 0 0, .int .i64 0, .slice none 0 0, .slice none 0 0] 61) := ⟨_, rfl⟩
  have hbV3 : Below w3.heap.size w3 V3 := by rw [hV3]; exact ((Below.refl _ w3).alloc (Nat.le_refl _) _).alloc (by simp) _
  have HZ1 : Hid (Blk V3 Z #[.int .i64 0, .int .i64 0, .slice none 0 0, .slice none 0 0, .int .i64 0, .slice none 0 0, .slice none 0 0] 61) := by
    have := (Blk.new w3 #[.int .i64 0, .int .i64 0, .slice none 0 0, .slice none 0 0, .int .i64 0, .slice none 0 0, .slice none 0 0] 61).alloc (.cells #[.int .i64 0, .int .i64 0, .slice none 0 0, .slice none 0 0, .int .i64 0, .slice none 0 0, .slice none 0 0] 61)
    rw [← hV3, ← hZ] at this
    exact this
  have HZ2 : Hid (Blk V3 (Z + 1) #[.int .i64 0, .int .i64 0, .slice none 0 0, .slice none 0 0, .int .i64 0, .slice none 0 0, .slice none 0 0] 61) := by
    have := Blk.new (w3.alloc (.cells #[.int .i64 0, .int .i64 0, .slice none 0 0, .slice none 0 0, .int .i64 0, .slice none 0 0, .slice none 0 0] 61)) #[.int .i64 0, .int .i64 0, .slice none 0 0, .slice none 0 0, .int .i64 0, .slice none 0 0, .slice none 0 0] 61
    rw [World.size_alloc, ← hV3, ← hZ] at this
    exact this
  have hXl := HS5.out.now.1.1.1.1.lt
  have hAl := HS5.out.now.1.2.1.lt
  have hBl := HS5.out.now.2.1.lt
  have HLT : Hid (X < Z ∧ bA < Z ∧ bB < Z) := by rw [hZ]; exact ⟨hXl, hAl, hBl⟩
  clear hXl hAl hBl
  have HS6 : Hid (StayK [Z, Z + 1] V3 (fun U => (((Blk U X #[.int .i64 last, .int .i64 next, .slice ha nh hc, .slice ba0 no bc, .int .i64 first, .slice ga ng gc, .slice oa nO oc] 61 ∧ TrIn (fun g => g < X) U (.slice ha nh hc) (.slice ba0 no bc) (.slice ga ng gc) (.slice oa nO oc) t) ∧ Below X w U) ∧ (Blk U bA #[.int .i64 la1, .int .i64 ne1, .slice ha1 hn1 hc1, .slice oa1 on1 oc1, .int .i64 fi1, .slice ga1 gn1 gc1, .slice pa1 pn1 pc1] 61 ∧ TrIn (fun g => g < bA) U (.slice ha1 hn1 hc1) (.slice oa1 on1 oc1) (.slice ga1 gn1 gc1) (.slice pa1 pn1 pc1) A)) ∧ (Blk U bB #[.int .i64 la2, .int .i64 ne2, .slice ha2 hn2 hc2, .slice oa2 on2 oc2, .int .i64 fi2, .slice ga2 gn2 gc2, .slice pa2 pn2 pc2] 61 ∧ TrIn (fun g => g < bB) U (.slice ha2 hn2 hc2) (.slice oa2 on2 oc2) (.slice ga2 gn2 gc2) (.slice pa2 pn2 pc2) B))) := fun Q hQ => HS5.out Q (hbV3.trans (hQ.toBelow hbV3.size (fun k hk => by simp at hk; omega)))
  clear HS5 hbV3
  go_upto_region 6 with fail
  rw [← hV3]
  try rw [← hZ]
  clear hV3 hZ
  by_cases h0 : E = 0
  case neg =>
    obtain ⟨e1, e2⟩ := HE1.out h0
    have KX : Hid (Blk V3 X #[.int .i64 last, .int .i64 next, .slice ha nh hc, .slice ba0 no bc, .int .i64 first, .slice ga ng gc, .slice oa nO oc] 61) := HS6.out.now.1.1.1.1
    have KA : Hid (Blk V3 bA #[.int .i64 la1, .int .i64 ne1, .slice ha1 hn1 hc1, .slice oa1 on1 oc1, .int .i64 fi1, .slice ga1 gn1 gc1, .slice pa1 pn1 pc1] 61) := HS6.out.now.1.2.1
    have KB : Hid (Blk V3 bB #[.int .i64 la2, .int .i64 ne2, .slice ha2 hn2 hc2, .slice oa2 on2 oc2, .int .i64 fi2, .slice ga2 gn2 gc2, .slice pa2 pn2 pc2] 61) := HS6.out.now.2.1
    have TA : Hid (TrIn (fun _ => True) V3 (.slice ha1 hn1 hc1) (.slice oa1 on1 oc1) (.slice ga1 gn1 gc1) (.slice pa1 pn1 pc1) A) := HS6.out.now.1.2.2.mono fun _ _ _ => trivial
    have TB : Hid (TrIn (fun _ => True) V3 (.slice ha2 hn2 hc2) (.slice oa2 on2 oc2) (.slice ga2 gn2 gc2) (.slice pa2 pn2 pc2) B) := HS6.out.now.2.2.mono fun _ _ _ => trivial
    have BT : Hid (Below X w V3) := HS6.out.now.1.1.2
    have HABad' := HABad.out (by rw [e1]; exact h0)
    have HBBad' := HBBad.out (by rw [e2]; exact h0)
    subst e1
    have e3 : Hid (ea = eb) := e2.symm
    have HI1 : Hid (∀ U, Below V3.heap.size V3 U → Calls Tryz.prog 30 #[.agg #[.int .i64 la1, .int .i64 ne1, .slice ha1 hn1 hc1, .slice oa1 on1 oc1, .int .i64 fi1, .slice ga1 gn1 gc1, .slice pa1 pn1 pc1], .int .i64 ca, .int .i64 ea, .int .i64 ea, .agg #[.int .i64 0, .int .i64 0, .slice none 0 0, .slice none 0 0, .int .i64 0, .slice none 0 0, .slice none 0 0], .int .i64 0] U fun e w' => e = .returned (.bool true) ∧ Below U.heap.size U w') := fun U hU => trackIs_true A Tr.zero ca 0 ea _ _ _ _ _ _ _ _ _ _ _ _ _ _ _ 0 0 none 0 0 none 0 0 0 none 0 0 none 0 0 U G1.out ⟨rfl, rfl, rfl, rfl⟩ (TA.out.below hU) (TrIn.zero _ U) (fun h => absurd h h0) (fun _ => HABad')
    have HI2 : Hid (∀ U, Below V3.heap.size V3 U → Calls Tryz.prog 30 #[.agg #[.int .i64 la2, .int .i64 ne2, .slice ha2 hn2 hc2, .slice oa2 on2 oc2, .int .i64 fi2, .slice ga2 gn2 gc2, .slice pa2 pn2 pc2], .int .i64 cb, .int .i64 eb, .int .i64 ea, .agg #[.int .i64 0, .int .i64 0, .slice none 0 0, .slice none 0 0, .int .i64 0, .slice none 0 0, .slice none 0 0], .int .i64 0] U fun e w' => e = .returned (.bool true) ∧ Below U.heap.size U w') := fun U hU => by
      rw [← e3.out]
      exact trackIs_true B Tr.zero cb 0 ea _ _ _ _ _ _ _ _ _ _ _ _ _ _ _ 0 0 none 0 0 none 0 0 0 none 0 0 none 0 0 U G2.out ⟨rfl, rfl, rfl, rfl⟩ (TB.out.below hU) (TrIn.zero _ U) (fun h => absurd h h0) (fun _ => HBBad')
    clear HS6 HABad HBBad HABad' HBBad' HE0 HE1 HF3 HF4 e2 e3
    go_upto_region 10 with fail
    have hWX := BT.out.size
    have hXW := KX.out.lt
    have cB : ∀ d os, Calls Tryz.prog 28 #[] (grow (redrawn V3 d) os) fun e w'' => e = .returned (.bool true) ∧ ∃ p : Regrown, w'' = grow (redrawn V3 p.d) p.os := fun d os => Calls.regrown_of (trackBegun_any _)
    have cC : ∀ d os, Calls Tryz.prog 29 #[.agg #[.int .i64 last, .int .i64 next, .slice ha nh hc, .slice ba0 no bc, .int .i64 first, .slice ga ng gc, .slice oa nO oc]] (grow (redrawn V3 d) os) fun e w'' => e = .returned (.int .i64 ea) ∧ ∃ p : Regrown, w'' = grow (redrawn V3 p.d) p.os := fun d os => Calls.regrown_of (HCP.out _ (BT.out.trans ((below_regrown V3 d os).mono (by omega))))
    have cR : ∀ d os, Calls Tryz.prog 25 #[.agg #[.int .i64 last, .int .i64 next, .slice ha nh hc, .slice ba0 no bc, .int .i64 first, .slice ga ng gc, .slice oa nO oc]] (grow (redrawn V3 d) os) fun e w'' => e = .returned (.int .i64 ea) ∧ ∃ p : Regrown, w'' = grow (redrawn V3 p.d) p.os := fun d os => Calls.regrown_of (HCR.out _ (BT.out.trans ((below_regrown V3 d os).mono (by omega))))
    have cS : ∀ d os, Calls Tryz.prog 30 #[.agg #[.int .i64 la1, .int .i64 ne1, .slice ha1 hn1 hc1, .slice oa1 on1 oc1, .int .i64 fi1, .slice ga1 gn1 gc1, .slice pa1 pn1 pc1], .int .i64 ca, .int .i64 ea, .int .i64 ea, .agg #[.int .i64 0, .int .i64 0, .slice none 0 0, .slice none 0 0, .int .i64 0, .slice none 0 0, .slice none 0 0], .int .i64 0] (grow (redrawn V3 d) os) fun e w'' => e = .returned (.bool true) ∧ ∃ p : Regrown, w'' = grow (redrawn V3 p.d) p.os := fun d os => Calls.regrown_of (HI1.out _ (below_regrown V3 d os))
    have cT : ∀ d os, Calls Tryz.prog 30 #[.agg #[.int .i64 la2, .int .i64 ne2, .slice ha2 hn2 hc2, .slice oa2 on2 oc2, .int .i64 fi2, .slice ga2 gn2 gc2, .slice pa2 pn2 pc2], .int .i64 cb, .int .i64 eb, .int .i64 ea, .agg #[.int .i64 0, .int .i64 0, .slice none 0 0, .slice none 0 0, .int .i64 0, .slice none 0 0, .slice none 0 0], .int .i64 0] (grow (redrawn V3 d) os) fun e w'' => e = .returned (.bool true) ∧ ∃ p : Regrown, w'' = grow (redrawn V3 p.d) p.os := fun d os => Calls.regrown_of (HI2.out _ (below_regrown V3 d os))
    obtain ⟨k0, k1, k2, k3, k4, k5, k6⟩ := KX.out.sevenc
    obtain ⟨a0, a1, a2, a3, a4, a5, a6⟩ := KA.out.sevenc
    obtain ⟨b0, b1, b2, b3, b4, b5, b6⟩ := KB.out.sevenc
    obtain ⟨f0, f1, f2, f3, f4, f5, f6⟩ := HZ1.out.sevenc
    obtain ⟨g0, g1, g2, g3, g4, g5, g6⟩ := HZ2.out.sevenc
    have k0' := cell_regrown k0
    have k1' := cell_regrown k1
    have k2' := cell_regrown k2
    have k3' := cell_regrown k3
    have k4' := cell_regrown k4
    have k5' := cell_regrown k5
    have k6' := cell_regrown k6
    have a0' := cell_regrown a0
    have a1' := cell_regrown a1
    have a2' := cell_regrown a2
    have a3' := cell_regrown a3
    have a4' := cell_regrown a4
    have a5' := cell_regrown a5
    have a6' := cell_regrown a6
    have b0' := cell_regrown b0
    have b1' := cell_regrown b1
    have b2' := cell_regrown b2
    have b3' := cell_regrown b3
    have b4' := cell_regrown b4
    have b5' := cell_regrown b5
    have b6' := cell_regrown b6
    have f0' := cell_regrown f0
    have f1' := cell_regrown f1
    have f2' := cell_regrown f2
    have f3' := cell_regrown f3
    have f4' := cell_regrown f4
    have f5' := cell_regrown f5
    have f6' := cell_regrown f6
    have g0' := cell_regrown g0
    have g1' := cell_regrown g1
    have g2' := cell_regrown g2
    have g3' := cell_regrown g3
    have g4' := cell_regrown g4
    have g5' := cell_regrown g5
    have g6' := cell_regrown g6
    clear k0 k1 k2 k3 k4 k5 k6 a0 a1 a2 a3 a4 a5 a6 b0 b1 b2 b3 b4 b5 b6 f0 f1 f2 f3 f4 f5 f6 g0 g1 g2 g3 g4 g5 g6 KX KA KB HZ1 HZ2 TA TB HI1 HI2 HCP HCR
    refine wp_region_quiet_below (by kernel_rfl) (by kernel_rfl) ?_
    iterate 2 (quiet_step (exact cB _ _))
    iterate 2 (quiet_step (exact cC _ _))
    iterate 2 (quiet_step (exact cR _ _))
    iterate 10 (quiet_step (exact cS _ _))
    iterate 11 (quiet_step (exact cT _ _))
    refine wpQuiet_nil ?_
    intro _ hw'
    obtain ⟨⟨dq, osq⟩, hw''⟩ := hw'
    subst hw''
    have bR := below_regrown V3 dq osq
    obtain ⟨V, hV⟩ : ∃ V, V = grow (redrawn V3 dq) osq := ⟨_, rfl⟩
    rw [← hV] at bR
    rw [← hV]
    have BV : Hid (Below X w V) := BT.out.trans (bR.mono (by omega))
    clear hV cB cC cR cS cT bR k0' k1' k2' k3' k4' k5' k6' a0' a1' a2' a3' a4' a5' a6' b0' b1' b2' b3' b4' b5' b6' f0' f1' f2' f3' f4' f5' f6' g0' g1' g2' g3' g4' g5' g6'
    go_wp2
    go_ret
    exact ⟨rfl, BV.out⟩
  have HEE : Hid (C = A ∧ cc = ca ∧ ec = ea ∧ D = B ∧ cd = cb ∧ ed = eb) := HE0.out h0
  have HC3 : Hid _ := HF3.out h0
  have HC4 : Hid _ := HF4.out h0
  clear HE0 HE1 HF3 HF4
  subst h0
  obtain ⟨y0, y1, y2, y3, y4, y5, y6⟩ := HS6.out.now.1.1.1.1.sevenc
  go_upto_region 8 with fail
  go_wp2_with fail
  refine (HC3.out Z V3 HS6.out.now.1.1.2 (Nat.le_of_lt HLT.out.1) (by have := HZ2.out.lt; omega)).mono ?_
  rintro e w4 ⟨la3, ne3, ha3, hn3, hc3, oa3, on3, oc3, fi3, ga3, gn3, gc3, pa3, pn3, pc3, rfl, G3, T3, c4⟩
  have HS7 := StayK.go HS6 c4
  have HZ14 : Hid (Blk w4 Z #[.int .i64 0, .int .i64 0, .slice none 0 0, .slice none 0 0, .int .i64 0, .slice none 0 0, .slice none 0 0] 61) := HZ1.out.below c4 HZ1.out.lt
  have HZ24 : Hid (Blk w4 (Z + 1) #[.int .i64 0, .int .i64 0, .slice none 0 0, .slice none 0 0, .int .i64 0, .slice none 0 0, .slice none 0 0] 61) := HZ2.out.below c4 HZ2.out.lt
  clear c4 HS6 HZ1 HZ2 HC3 y0 y1 y2 y3 y4 y5 y6
  obtain ⟨z0, z1, z2, z3, z4, z5, z6⟩ := HZ14.out.sevenc
  have fM := HZ14.out.free
  have lM := HZ14.out.lt
  obtain ⟨V5, hV5⟩ : ∃ V, V = ((((((w4.setCell ⟨Z, 0, none⟩ (.int .i64 la3)).setCell ⟨Z, 1, none⟩ (.int .i64 ne3)).setCell ⟨Z, 2, none⟩ (.slice ha3 hn3 hc3)).setCell ⟨Z, 3, none⟩ (.slice oa3 on3 oc3)).setCell ⟨Z, 4, none⟩ (.int .i64 fi3)).setCell ⟨Z, 5, none⟩ (.slice ga3 gn3 gc3)).setCell ⟨Z, 6, none⟩ (.slice pa3 pn3 pc3) := ⟨_, rfl⟩
  have hk5 : Kept [Z] w4 V5 := by rw [hV5]; exact ((((((((Kept.refl [Z] w4).setCell (p := ⟨Z, 0, none⟩) (by simp) _).setCell (p := ⟨Z, 1, none⟩) (by simp) _).setCell (p := ⟨Z, 2, none⟩) (by simp) _).setCell (p := ⟨Z, 3, none⟩) (by simp) _).setCell (p := ⟨Z, 4, none⟩) (by simp) _).setCell (p := ⟨Z, 5, none⟩) (by simp) _).setCell (p := ⟨Z, 6, none⟩) (by simp) _)
  have hk5' : Kept [Z, Z + 1] w4 V5 := ⟨hk5.os, hk5.tape, hk5.output, hk5.size, fun k hk hS => hk5.block k hk (by simp at hS ⊢; exact hS.1)⟩
  have HZ15 : Hid (Blk V5 Z #[.int .i64 la3, .int .i64 ne3, .slice ha3 hn3 hc3, .slice oa3 on3 oc3, .int .i64 fi3, .slice ga3 gn3 gc3, .slice pa3 pn3 pc3] 61) := by
    have := (((((((HZ14.out.set 0 (.int .i64 la3)).set 1 (.int .i64 ne3)).set 2 (.slice ha3 hn3 hc3)).set 3 (.slice oa3 on3 oc3)).set 4 (.int .i64 fi3)).set 5 (.slice ga3 gn3 gc3)).set 6 (.slice pa3 pn3 pc3))
    rw [hV5]; simpa [Hid] using this
  have HZ25 : Hid (Blk V5 (Z + 1) #[.int .i64 0, .int .i64 0, .slice none 0 0, .slice none 0 0, .int .i64 0, .slice none 0 0, .slice none 0 0] 61) := HZ24.out.kept hk5 (by simp)
  have T35 : Hid (TrIn (fun g => g ≠ Z ∧ g ≠ Z + 1) V5 (.slice ha3 hn3 hc3) (.slice oa3 on3 oc3) (.slice ga3 gn3 gc3) (.slice pa3 pn3 pc3) C) := T3.out.to ⟨hk5.size, fun g hg hs => hk5.block g hg (by simp; exact hs.1)⟩ (fun _ _ h => h)
  have HS8 := StayK.goK HS7 hk5'
  clear hk5 hk5' HS7 HZ14 HZ24 T3
  go_upto_region 9 with fail
  rw [← hV5]
  clear hV5 z0 z1 z2 z3 z4 z5 z6 fM lM
  obtain ⟨y0, y1, y2, y3, y4, y5, y6⟩ := HS8.out.now.1.1.1.1.sevenc
  go_wp2_with fail
  refine (HC4.out Z V5 HS8.out.now.1.1.2 (Nat.le_of_lt HLT.out.1) (by have := HZ25.out.lt; omega)).mono ?_
  rintro e w6 ⟨la4, ne4, ha4, hn4, hc4, oa4, on4, oc4, fi4, ga4, gn4, gc4, pa4, pn4, pc4, rfl, G4, T4, c6⟩
  have HS9 := StayK.go HS8 c6
  have HZ16 : Hid (Blk w6 Z #[.int .i64 la3, .int .i64 ne3, .slice ha3 hn3 hc3, .slice oa3 on3 oc3, .int .i64 fi3, .slice ga3 gn3 gc3, .slice pa3 pn3 pc3] 61) := HZ15.out.below c6 HZ15.out.lt
  have HZ26 : Hid (Blk w6 (Z + 1) #[.int .i64 0, .int .i64 0, .slice none 0 0, .slice none 0 0, .int .i64 0, .slice none 0 0, .slice none 0 0] 61) := HZ25.out.below c6 HZ25.out.lt
  have T36 := T35.out.below c6
  clear c6 HS8 HZ15 HZ25 HC4 y0 y1 y2 y3 y4 y5 y6 T35
  obtain ⟨z0, z1, z2, z3, z4, z5, z6⟩ := HZ26.out.sevenc
  have fM := HZ26.out.free
  have lM := HZ26.out.lt
  obtain ⟨V7, hV7⟩ : ∃ V, V = ((((((w6.setCell ⟨Z + 1, 0, none⟩ (.int .i64 la4)).setCell ⟨Z + 1, 1, none⟩ (.int .i64 ne4)).setCell ⟨Z + 1, 2, none⟩ (.slice ha4 hn4 hc4)).setCell ⟨Z + 1, 3, none⟩ (.slice oa4 on4 oc4)).setCell ⟨Z + 1, 4, none⟩ (.int .i64 fi4)).setCell ⟨Z + 1, 5, none⟩ (.slice ga4 gn4 gc4)).setCell ⟨Z + 1, 6, none⟩ (.slice pa4 pn4 pc4) := ⟨_, rfl⟩
  have hk7 : Kept [Z + 1] w6 V7 := by rw [hV7]; exact ((((((((Kept.refl [Z + 1] w6).setCell (p := ⟨Z + 1, 0, none⟩) (by simp) _).setCell (p := ⟨Z + 1, 1, none⟩) (by simp) _).setCell (p := ⟨Z + 1, 2, none⟩) (by simp) _).setCell (p := ⟨Z + 1, 3, none⟩) (by simp) _).setCell (p := ⟨Z + 1, 4, none⟩) (by simp) _).setCell (p := ⟨Z + 1, 5, none⟩) (by simp) _).setCell (p := ⟨Z + 1, 6, none⟩) (by simp) _)
  have hk7' : Kept [Z, Z + 1] w6 V7 := ⟨hk7.os, hk7.tape, hk7.output, hk7.size, fun k hk hS => hk7.block k hk (by simp at hS ⊢; exact hS.2)⟩
  have HZ27 : Hid (Blk V7 (Z + 1) #[.int .i64 la4, .int .i64 ne4, .slice ha4 hn4 hc4, .slice oa4 on4 oc4, .int .i64 fi4, .slice ga4 gn4 gc4, .slice pa4 pn4 pc4] 61) := by
    have := (((((((HZ26.out.set 0 (.int .i64 la4)).set 1 (.int .i64 ne4)).set 2 (.slice ha4 hn4 hc4)).set 3 (.slice oa4 on4 oc4)).set 4 (.int .i64 fi4)).set 5 (.slice ga4 gn4 gc4)).set 6 (.slice pa4 pn4 pc4))
    rw [hV7]; simpa [Hid] using this
  have HZ17 : Hid (Blk V7 Z #[.int .i64 la3, .int .i64 ne3, .slice ha3 hn3 hc3, .slice oa3 on3 oc3, .int .i64 fi3, .slice ga3 gn3 gc3, .slice pa3 pn3 pc3] 61) := HZ16.out.kept hk7 (by simp)
  have TC : Hid (TrIn (fun _ => True) V7 (.slice ha3 hn3 hc3) (.slice oa3 on3 oc3) (.slice ga3 gn3 gc3) (.slice pa3 pn3 pc3) C) := T36.to ⟨hk7.size, fun g hg hs => hk7.block g hg (by simp; exact hs.2)⟩ (fun _ _ _ => trivial)
  have TD : Hid (TrIn (fun _ => True) V7 (.slice ha4 hn4 hc4) (.slice oa4 on4 oc4) (.slice ga4 gn4 gc4) (.slice pa4 pn4 pc4) D) := T4.out.to ⟨hk7.size, fun g hg hs => hk7.block g hg (by simp; exact hs.2)⟩ (fun _ _ _ => trivial)
  have HS10 := StayK.goK HS9 hk7'
  clear hk7 hk7' HS9 HZ16 HZ26 T4 T36
  have KX : Hid (Blk V7 X #[.int .i64 last, .int .i64 next, .slice ha nh hc, .slice ba0 no bc, .int .i64 first, .slice ga ng gc, .slice oa nO oc] 61) := HS10.out.now.1.1.1.1
  have KA : Hid (Blk V7 bA #[.int .i64 la1, .int .i64 ne1, .slice ha1 hn1 hc1, .slice oa1 on1 oc1, .int .i64 fi1, .slice ga1 gn1 gc1, .slice pa1 pn1 pc1] 61) := HS10.out.now.1.2.1
  have KB : Hid (Blk V7 bB #[.int .i64 la2, .int .i64 ne2, .slice ha2 hn2 hc2, .slice oa2 on2 oc2, .int .i64 fi2, .slice ga2 gn2 gc2, .slice pa2 pn2 pc2] 61) := HS10.out.now.2.1
  have TA : Hid (TrIn (fun _ => True) V7 (.slice ha1 hn1 hc1) (.slice oa1 on1 oc1) (.slice ga1 gn1 gc1) (.slice pa1 pn1 pc1) A) := HS10.out.now.1.2.2.mono fun _ _ _ => trivial
  have TB : Hid (TrIn (fun _ => True) V7 (.slice ha2 hn2 hc2) (.slice oa2 on2 oc2) (.slice ga2 gn2 gc2) (.slice pa2 pn2 pc2) B) := HS10.out.now.2.2.mono fun _ _ _ => trivial
  have BT : Hid (Below X w V7) := HS10.out.now.1.1.2
  obtain ⟨e1, e2, e3, e4, e5, e6⟩ := HEE.out
  subst e3 e6
  have HI1 : Hid (∀ U, Below V7.heap.size V7 U → Calls Tryz.prog 30 #[.agg #[.int .i64 la1, .int .i64 ne1, .slice ha1 hn1 hc1, .slice oa1 on1 oc1, .int .i64 fi1, .slice ga1 gn1 gc1, .slice pa1 pn1 pc1], .int .i64 ca, .int .i64 ec, .int .i64 ec, .agg #[.int .i64 la3, .int .i64 ne3, .slice ha3 hn3 hc3, .slice oa3 on3 oc3, .int .i64 fi3, .slice ga3 gn3 gc3, .slice pa3 pn3 pc3], .int .i64 cc] U fun e w' => e = .returned (.bool true) ∧ Below U.heap.size U w') := fun U hU => trackIs_true A C ca cc ec _ _ _ _ _ _ _ _ _ _ _ _ _ _ _ _ _ _ _ _ _ _ _ _ _ _ _ _ _ _ U G1.out G3.out (TA.out.below hU) (TC.out.below hU) (fun _ => ⟨e1, e2⟩) HABad.out
  have HI2 : Hid (∀ U, Below V7.heap.size V7 U → Calls Tryz.prog 30 #[.agg #[.int .i64 la2, .int .i64 ne2, .slice ha2 hn2 hc2, .slice oa2 on2 oc2, .int .i64 fi2, .slice ga2 gn2 gc2, .slice pa2 pn2 pc2], .int .i64 cb, .int .i64 ed, .int .i64 ed, .agg #[.int .i64 la4, .int .i64 ne4, .slice ha4 hn4 hc4, .slice oa4 on4 oc4, .int .i64 fi4, .slice ga4 gn4 gc4, .slice pa4 pn4 pc4], .int .i64 cd] U fun e w' => e = .returned (.bool true) ∧ Below U.heap.size U w') := fun U hU => trackIs_true B D cb cd ed _ _ _ _ _ _ _ _ _ _ _ _ _ _ _ _ _ _ _ _ _ _ _ _ _ _ _ _ _ _ U G2.out G4.out (TB.out.below hU) (TD.out.below hU) (fun _ => ⟨e4, e5⟩) HBBad.out
  have HZ1 : Hid (Blk V7 Z #[.int .i64 la3, .int .i64 ne3, .slice ha3 hn3 hc3, .slice oa3 on3 oc3, .int .i64 fi3, .slice ga3 gn3 gc3, .slice pa3 pn3 pc3] 61) := HZ17
  have HZ2 : Hid (Blk V7 (Z + 1) #[.int .i64 la4, .int .i64 ne4, .slice ha4 hn4 hc4, .slice oa4 on4 oc4, .int .i64 fi4, .slice ga4 gn4 gc4, .slice pa4 pn4 pc4] 61) := HZ27
  clear HS10 HABad HBBad HZ17 HZ27 e1 e2 e4 e5 HEE
  go_upto_region 10 with fail
  rw [← hV7]
  clear hV7 z0 z1 z2 z3 z4 z5 z6 fM lM
  skip
  have hWX := BT.out.size
  have hXW := KX.out.lt
  have cB : ∀ d os, Calls Tryz.prog 28 #[] (grow (redrawn V7 d) os) fun e w'' => e = .returned (.bool true) ∧ ∃ p : Regrown, w'' = grow (redrawn V7 p.d) p.os := fun d os => Calls.regrown_of (trackBegun_any _)
  have cC : ∀ d os, Calls Tryz.prog 29 #[.agg #[.int .i64 last, .int .i64 next, .slice ha nh hc, .slice ba0 no bc, .int .i64 first, .slice ga ng gc, .slice oa nO oc]] (grow (redrawn V7 d) os) fun e w'' => e = .returned (.int .i64 0) ∧ ∃ p : Regrown, w'' = grow (redrawn V7 p.d) p.os := fun d os => Calls.regrown_of (HCP.out _ (BT.out.trans ((below_regrown V7 d os).mono (by omega))))
  have cR : ∀ d os, Calls Tryz.prog 25 #[.agg #[.int .i64 last, .int .i64 next, .slice ha nh hc, .slice ba0 no bc, .int .i64 first, .slice ga ng gc, .slice oa nO oc]] (grow (redrawn V7 d) os) fun e w'' => e = .returned (.int .i64 0) ∧ ∃ p : Regrown, w'' = grow (redrawn V7 p.d) p.os := fun d os => Calls.regrown_of (HCR.out _ (BT.out.trans ((below_regrown V7 d os).mono (by omega))))
  have cS : ∀ d os, Calls Tryz.prog 30 #[.agg #[.int .i64 la1, .int .i64 ne1, .slice ha1 hn1 hc1, .slice oa1 on1 oc1, .int .i64 fi1, .slice ga1 gn1 gc1, .slice pa1 pn1 pc1], .int .i64 ca, .int .i64 ec, .int .i64 ec, .agg #[.int .i64 la3, .int .i64 ne3, .slice ha3 hn3 hc3, .slice oa3 on3 oc3, .int .i64 fi3, .slice ga3 gn3 gc3, .slice pa3 pn3 pc3], .int .i64 cc] (grow (redrawn V7 d) os) fun e w'' => e = .returned (.bool true) ∧ ∃ p : Regrown, w'' = grow (redrawn V7 p.d) p.os := fun d os => Calls.regrown_of (HI1.out _ (below_regrown V7 d os))
  have cT : ∀ d os, Calls Tryz.prog 30 #[.agg #[.int .i64 la2, .int .i64 ne2, .slice ha2 hn2 hc2, .slice oa2 on2 oc2, .int .i64 fi2, .slice ga2 gn2 gc2, .slice pa2 pn2 pc2], .int .i64 cb, .int .i64 ed, .int .i64 ed, .agg #[.int .i64 la4, .int .i64 ne4, .slice ha4 hn4 hc4, .slice oa4 on4 oc4, .int .i64 fi4, .slice ga4 gn4 gc4, .slice pa4 pn4 pc4], .int .i64 cd] (grow (redrawn V7 d) os) fun e w'' => e = .returned (.bool true) ∧ ∃ p : Regrown, w'' = grow (redrawn V7 p.d) p.os := fun d os => Calls.regrown_of (HI2.out _ (below_regrown V7 d os))
  obtain ⟨k0, k1, k2, k3, k4, k5, k6⟩ := KX.out.sevenc
  obtain ⟨a0, a1, a2, a3, a4, a5, a6⟩ := KA.out.sevenc
  obtain ⟨b0, b1, b2, b3, b4, b5, b6⟩ := KB.out.sevenc
  obtain ⟨f0, f1, f2, f3, f4, f5, f6⟩ := HZ1.out.sevenc
  obtain ⟨g0, g1, g2, g3, g4, g5, g6⟩ := HZ2.out.sevenc
  have k0' := cell_regrown k0
  have k1' := cell_regrown k1
  have k2' := cell_regrown k2
  have k3' := cell_regrown k3
  have k4' := cell_regrown k4
  have k5' := cell_regrown k5
  have k6' := cell_regrown k6
  have a0' := cell_regrown a0
  have a1' := cell_regrown a1
  have a2' := cell_regrown a2
  have a3' := cell_regrown a3
  have a4' := cell_regrown a4
  have a5' := cell_regrown a5
  have a6' := cell_regrown a6
  have b0' := cell_regrown b0
  have b1' := cell_regrown b1
  have b2' := cell_regrown b2
  have b3' := cell_regrown b3
  have b4' := cell_regrown b4
  have b5' := cell_regrown b5
  have b6' := cell_regrown b6
  have f0' := cell_regrown f0
  have f1' := cell_regrown f1
  have f2' := cell_regrown f2
  have f3' := cell_regrown f3
  have f4' := cell_regrown f4
  have f5' := cell_regrown f5
  have f6' := cell_regrown f6
  have g0' := cell_regrown g0
  have g1' := cell_regrown g1
  have g2' := cell_regrown g2
  have g3' := cell_regrown g3
  have g4' := cell_regrown g4
  have g5' := cell_regrown g5
  have g6' := cell_regrown g6
  clear k0 k1 k2 k3 k4 k5 k6 a0 a1 a2 a3 a4 a5 a6 b0 b1 b2 b3 b4 b5 b6 f0 f1 f2 f3 f4 f5 f6 g0 g1 g2 g3 g4 g5 g6 KX KA KB HZ1 HZ2 TA TB HI1 HI2 HCP HCR
  refine wp_region_quiet_below (by kernel_rfl) (by kernel_rfl) ?_
  iterate 2 (quiet_step (exact cB _ _))
  iterate 2 (quiet_step (exact cC _ _))
  iterate 2 (quiet_step (exact cR _ _))
  iterate 10 (quiet_step (exact cS _ _))
  iterate 11 (quiet_step (exact cT _ _))
  refine wpQuiet_nil ?_
  intro _ hw'
  obtain ⟨⟨dq, osq⟩, hw''⟩ := hw'
  subst hw''
  have bR := below_regrown V7 dq osq
  obtain ⟨V, hV⟩ : ∃ V, V = grow (redrawn V7 dq) osq := ⟨_, rfl⟩
  rw [← hV] at bR
  rw [← hV]
  have BV : Hid (Below X w V) := BT.out.trans (bR.mono (by omega))
  clear hV cB cC cR cS cT bR k0' k1' k2' k3' k4' k5' k6' a0' a1' a2' a3' a4' a5' a6' b0' b1' b2' b3' b4' b5' b6' f0' f1' f2' f3' f4' f5' f6' g0' g1' g2' g3' g4' g5' g6'
  go_wp2
  go_ret
  exact ⟨rfl, BV.out⟩

end Go.Proofs.YtnpaejknoipicafGreat
