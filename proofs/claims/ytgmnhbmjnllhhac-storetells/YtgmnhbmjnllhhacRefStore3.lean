/-
  Contract of the document's StoreAdd.
-/
import Derived.Test.YtgmnhbmjnllhhacRefStore2
import Derived.Test.YtgmnhbmjnllhhacRefGrow
import Derived.Deep.DeepCutAuto
namespace Go.Proofs.Ytgmnhbmjnllhhac
open Go.RowKit

set_option maxHeartbeats 8000000 in
set_option maxRecDepth 100000 in
theorem refStoreAdd_in (S : Nat → Prop) (first : Int) (gv ov pv : Value) (L : List (List Fr)) (O : List Fr) (f : Fr) (w : World) (hg : GrsIn S w gv L) (ho : FrsIn S w ov O) (hp : StrsIn S w pv f.parts) (hr : stchk first L O = 0) (hf : f.chk = 0) :
    Calls Try.prog 26 #[.agg #[.int .i64 first, gv, ov], .agg #[.int .i64 f.time, .bool f.key, pv]] w fun e w' => ∃ gv' ov', e = .returned (.tuple #[.agg #[.int .i64 (addsF first L O f), gv', ov'], .bool (addsB first L O f), .int .i64 (addsE first L O f)]) ∧ GrsIn (fun g => S g ∨ w.heap.size ≤ g) w' gv' (addsL first L O f) ∧ FrsIn (fun g => S g ∨ w.heap.size ≤ g) w' ov' (addsO first L O f) ∧ Below w.heap.size w w' := by
  obtain ⟨r1, r2, r3, r4, _, r6⟩ := stchk_zero.1 hr
  have hO6 : O.length ≤ 6 := by
    rcases r6 with r6 | r6
    · rw [r6]; simp
    · exact (gchk_zero.1 r6).2.1
  obtain ⟨ga, gc, eg, _, _⟩ := hg.len
  obtain ⟨oa, oc, eo, _, _⟩ := ho.len
  obtain ⟨pa, pc, ep⟩ := hp.1.len
  obtain ⟨ln, hln⟩ : ∃ n, n = L.length := ⟨_, rfl⟩
  obtain ⟨lo, hlo⟩ : ∃ n, n = O.length := ⟨_, rfl⟩
  obtain ⟨pn, hpn⟩ : ∃ n, n = f.parts.length := ⟨_, rfl⟩
  rw [← hln] at eg
  rw [← hlo] at eo
  rw [← hpn] at ep
  obtain ⟨ft, hft⟩ : ∃ t, t = f.time := ⟨_, rfl⟩
  obtain ⟨fk, hfk⟩ : ∃ t, t = f.key := ⟨_, rfl⟩
  obtain ⟨M, hM⟩ : ∃ M, M = L ++ closedG O f := ⟨_, rfl⟩
  obtain ⟨cl, hcl⟩ : ∃ c, c = (f.key && decide (0 < O.length)) := ⟨_, rfl⟩
  obtain ⟨D, hD⟩ : ∃ D, D = trimD M := ⟨_, rfl⟩
  obtain ⟨Q, hQ⟩ : ∃ Q, Q = growG O f := ⟨_, rfl⟩
  obtain ⟨nq, hnq⟩ : ∃ n, n = Q.length := ⟨_, rfl⟩
  obtain ⟨E, hE⟩ : ∃ E, E = addsE first L O f := ⟨_, rfl⟩
  have HE : Hid (E = if 100000 < first + (D : Int) then 2 else 0) := by show _ = _; rw [hE, hD, hM]; unfold addsE; rw [if_pos hr, if_pos hf]
  have HBAD : Hid (¬ E = 0 → addsF first L O f = 0 ∧ addsL first L O f = [] ∧ addsO first L O f = [] ∧ addsB first L O f = false) := fun h => addsE_bad (by rw [← hE]; exact h)
  have HGOOD : Hid (E = 0 → addsF first L O f = first + D ∧ addsL first L O f = M.drop D ∧ addsO first L O f = Q ∧ addsB first L O f = cl) := fun h => by
    rw [hE] at h
    obtain ⟨_, _, _, e1, e2, e3, e4⟩ := addsE_zero h
    rw [hD, hM, hQ, hcl]
    refine ⟨e1, e2, e3, ?_⟩
    rw [e4]
    unfold closedG
    cases (f.key && decide (0 < O.length)) <;> rfl
  have HMC : Hid ((cl = false → M = L) ∧ (cl = true → M = L ++ [O])) := by
    rw [hM, hcl]; unfold closedG
    exact ⟨fun h => by rw [h]; simp, fun h => by rw [h]; simp⟩
  have HM : Hid ((∀ g ∈ M, gchk g = 0) ∧ M.length ≤ 6) := by
    rw [hM]
    rcases closedG_cases O f with ⟨e, _⟩ | ⟨e, _, h0⟩
    · rw [e, List.append_nil]; exact ⟨r4, by omega⟩
    · rw [e]
      refine ⟨fun g hg => ?_, by simp; omega⟩
      rcases List.mem_append.1 hg with hg | hg
      · exact r4 g hg
      · simp at hg; subst hg
        rcases r6 with r6 | r6
        · rw [r6] at h0; simp at h0
        · exact r6
  have HTR : Hid (∀ (S : Nat → Prop) (v : Value) (U : World), GrsIn S U v M → Calls Try.prog 48 #[.int .i64 first, v] U fun e w' => ∃ v', e = .returned (.tuple #[.int .i64 (first + D), v']) ∧ GrsIn S w' v' (M.drop D) ∧ Below U.heap.size U w') := fun S v U h => by
    rw [hD]; exact trimmed_any S M first v U h HM.out.1 (by have := HM.out.2; omega) (by omega) (by have := HM.out.2; omega)
  have HGR : Hid (∀ U, Below w.heap.size w U → Calls Try.prog 40 #[.agg #[ov], .agg #[.int .i64 ft, .bool fk, pv]] U fun e w' => ∃ a c, e = .returned (.tuple #[.agg #[.slice a nq c], .bool cl]) ∧ Hid (FrsIn (fun b => (S b ∧ b < w.heap.size) ∨ U.heap.size ≤ b) w' (.slice a nq c) Q) ∧ Below U.heap.size U w') := fun U hU => by
    have := growOf_any (fun g => S g ∧ g < w.heap.size) ov O f pv U ((ho.mono fun g h h' => ⟨h', h⟩).below hU) ((hp.mono fun g h h' => ⟨h', h⟩).below hU) hO6
    rw [← hft, ← hfk, ← hQ, ← hnq, hfk, ← hcl, ← hfk] at this
    exact this
  have hD6 : D ≤ 5 := by have := trimD_le M; have := HM.out.2; omega
  have HG : Hid (GrsIn (fun g => S g ∧ g < w.heap.size) w gv L) := hg.mono fun g h h' => ⟨h', h⟩
  have HO : Hid (FrsIn (fun g => S g ∧ g < w.heap.size) w ov O) := ho.mono fun g h h' => ⟨h', h⟩
  have HL : Hid (L.length ≤ 5) := r3
  rw [← hft, ← hfk, ← hE]
  clear hg ho hp hr hf r3 r4 r6 hO6 hft hfk hM hcl hD hQ hnq hE hln hlo hpn
  subst eg eo ep
  go_enter Try.func26, Try.ntmps26
  go_wp2_with fail
  obtain ⟨W0, hW0⟩ : ∃ W0, W0 = ((w.alloc (.cells #[.int .i64 first, .slice ga ln gc, .slice oa lo oc] 51)).alloc (.cells #[.int .i64 ft, .bool fk, .slice pa pn pc] 48)).alloc (.cells #[.int .i64 0, .slice none 0 0, .slice none 0 0] 51) := ⟨_, rfl⟩
  have z0 : W0.heap.size = w.heap.size + 3 := by rw [hW0]; simp
  have HS0 : Hid (Stay W0 (fun U => Blk U w.heap.size #[.int .i64 first, .slice ga ln gc, .slice oa lo oc] 51 ∧ Blk U (w.heap.size + 2) #[.int .i64 0, .slice none 0 0, .slice none 0 0] 51 ∧ GrsIn (fun g => S g ∧ g < w.heap.size) U (.slice ga ln gc) L ∧ FrsIn (fun g => S g ∧ g < w.heap.size) U (.slice oa lo oc) O ∧ Below w.heap.size w U)) := by
    have hb : Below w.heap.size w W0 := by rw [hW0]; exact (((Below.refl _ _).alloc (Nat.le_refl _) _).alloc (by simp) _).alloc (by simp; omega) _
    have k1 : Blk W0 w.heap.size #[.int .i64 first, .slice ga ln gc, .slice oa lo oc] 51 := by rw [hW0]; exact ((Blk.new _ _ _).alloc _).alloc _
    have k2 : Blk W0 (w.heap.size + 2) #[.int .i64 0, .slice none 0 0, .slice none 0 0] 51 := by
      have := Blk.newE hW0
      simpa using this
    exact k1.stay.and (k2.stay.and ((HG.out.below hb).stay.and ((HO.out.below hb).stay.and (below_stay hb (by omega)))))
  rw [← hW0]
  clear hW0 HG HO
  refine (HGR.out _ HS0.out.now.2.2.2.2).mono ?_
  rintro e w1 ⟨a1, c1, rfl, F1, b1⟩
  have hs1 := b1.size
  obtain ⟨V, hV⟩ : ∃ V, V = (w1.alloc (.cells #[.slice a1 nq c1] 35)).alloc (.cells #[.int .i64 0, .slice none 0 0, .slice a1 nq c1] 51) := ⟨_, rfl⟩
  have zV : V.heap.size = w1.heap.size + 2 := by rw [hV]; simp
  have HSV : Hid (Stay V (fun U => (Blk U (w1.heap.size + 1) #[.int .i64 0, .slice none 0 0, .slice a1 nq c1] 51 ∧ FrsIn (fun g => ((S g ∧ g < w.heap.size) ∨ w.heap.size + 3 ≤ g) ∧ g < w1.heap.size) U (.slice a1 nq c1) Q) ∧ Blk U w.heap.size #[.int .i64 first, .slice ga ln gc, .slice oa lo oc] 51 ∧ Blk U (w.heap.size + 2) #[.int .i64 0, .slice none 0 0, .slice none 0 0] 51 ∧ GrsIn (fun g => S g ∧ g < w.heap.size) U (.slice ga ln gc) L ∧ FrsIn (fun g => S g ∧ g < w.heap.size) U (.slice oa lo oc) O ∧ Below w.heap.size w U)) := by
    have k1 : Blk V (w1.heap.size + 1) #[.int .i64 0, .slice none 0 0, .slice a1 nq c1] 51 := by
      have := Blk.newE hV
      simpa using this
    have k2 : FrsIn (fun g => ((S g ∧ g < w.heap.size) ∨ w.heap.size + 3 ≤ g) ∧ g < w1.heap.size) V (.slice a1 nq c1) Q := by
      rw [hV]; exact ((F1.out.mono fun g h1 h2 => ⟨h2.imp id (fun h => by omega), h1⟩).alloc _).alloc _
    have k3 := (((HS0.out.step b1).alloc (.cells #[.slice a1 nq c1] 35)).allocE hV).out
    exact (k1.stay.and k2.stay).and k3
  obtain ⟨v3, w3, r3, o3, b3⟩ := groups_copyS (S := fun g => S g ∧ g < w.heap.size) (fun g hg => by have := hg.2; omega) HSV.out.now.2.2.2.1 (by have := HL.out; omega)
  have HS3 := Stay.go HSV b3
  obtain ⟨v5, w5, r5, o5, b5⟩ := groups_snocS (S := fun g => S g ∧ g < w.heap.size) (fun g hg => by have := hg.2; omega) o3 HS3.out.now.2.2.2.2.1 (by have := HL.out; omega) b3.size
  have b35 : Below V.heap.size V w5 := b3.trans (b5.mono (Nat.le_refl _))
  have HS5 := Stay.go HSV b35
  have HR3 : Hid (GrsIn (fun g => (S g ∧ g < w.heap.size) ∨ V.heap.size ≤ g) w3 v3 L) := o3.grsIn (fun g _ h => .inl h) (fun g h => .inr (o3.lt g h).1)
  have HR5 : Hid (GrsIn (fun g => (S g ∧ g < w.heap.size) ∨ V.heap.size ≤ g) w5 v5 (L ++ [O])) := o5.grsIn (fun g _ h => .inl h) (fun g h => .inr (o5.lt g h).1)
  have r3' : (Builtin.append_ #[38, 38] 38 #[.slice (some ⟨w1.heap.size + 2, 0, none⟩) 0 0, .slice ga ln gc]).run Try.prog (((w1.alloc (.cells #[.slice a1 nq c1] 35)).alloc (.cells #[.int .i64 0, .slice none 0 0, .slice a1 nq c1] 51)).alloc (.cells #[] 35)) = .ok v3 w3 := by
    rw [show w1.heap.size + 2 = V.heap.size by omega, ← hV]; exact r3
  -- behind the groups: one way for both
  have HREST : Hid (∀ (v : Value) (U : World), GrsIn (fun g => (S g ∧ g < w.heap.size) ∨ V.heap.size ≤ g) U v M → True) := fun _ _ _ => trivial
  obtain ⟨k0, k1, k2⟩ := (HS0.out.step b1).now.1.three
  obtain ⟨m0, m1, m2⟩ := (HSV.out.alloc (.cells #[] 35)).now.2.1.three
  have hlt1 : w.heap.size < w1.heap.size := by omega
  have hlt2 : w.heap.size + 2 < w1.heap.size := by omega
  obtain ⟨q0, q1, q2⟩ := HS3.out.now.2.1.three
  obtain ⟨p0, p1, p2⟩ := HS5.out.now.2.1.three
  obtain ⟨Z, hZ⟩ : ∃ Z, Z = V.heap.size := ⟨_, rfl⟩
  rw [← hZ] at HR3 HR5
  have hZ2 : Z = w1.heap.size + 2 := by omega
  clear r3 o3 o5 b3 b5 b35 HREST HS0 b1 F1 HGR hZ HSV zV
  subst hV
  go_upto_if 24 with (at_builtin; refine wpList_append_run rfl (.tmp 20) (.tmp 22) 38 38 rfl _ _ rfl rfl r3' ?_)
  go_cut [10] (fun s10 wc => Hid (GrsIn (fun g => (S g ∧ g < w.heap.size) ∨ Z ≤ g) wc s10 M) ∧ Hid (Stay wc (fun U => (Blk U (w1.heap.size + 1) #[.int .i64 0, .slice none 0 0, .slice a1 nq c1] 51 ∧ FrsIn (fun g => ((S g ∧ g < w.heap.size) ∨ w.heap.size + 3 ≤ g) ∧ g < w1.heap.size) U (.slice a1 nq c1) Q) ∧ Blk U w.heap.size #[.int .i64 first, .slice ga ln gc, .slice oa lo oc] 51 ∧ Blk U (w.heap.size + 2) #[.int .i64 0, .slice none 0 0, .slice none 0 0] 51 ∧ GrsIn (fun g => S g ∧ g < w.heap.size) U (.slice ga ln gc) L ∧ FrsIn (fun g => S g ∧ g < w.heap.size) U (.slice oa lo oc) O ∧ Below w.heap.size w U)))
  case first =>
    cases cl
    · have hM : Hid (M = L) := HMC.out.1 rfl
      go_wp2_with fail
      go_meet
      case rel => exact ⟨by rw [hM.out]; exact HR3.out, HS3.out⟩
    · have hM : Hid (M = L ++ [O]) := HMC.out.2 rfl
      go_wp2_with (at_builtin; refine wpList_append_run rfl (.tmp 25) (.tmp 28) 38 38 rfl _ _ rfl rfl r5 ?_)
      go_meet
      case rel => exact ⟨by rw [hM.out]; exact HR5.out, HS5.out⟩
  case rest =>
    obtain ⟨HGM, HS6⟩ := hcut
    clear HR3 HR5 r3' r5 HS3 HS5 k0 k1 k2 m0 m1 m2 q0 q1 q2 p0 p1 p2 HMC
    obtain ⟨k0, k1, k2⟩ := HS6.out.now.2.1.three
    go_wp2_with fail
    refine (HTR.out _ _ _ HGM.out).mono ?_
    rintro e w7 ⟨v7, rfl, G7, b7⟩
    obtain ⟨va, vc, ev, _, _⟩ := G7.len
    obtain ⟨nv, hnv⟩ : ∃ n, n = (M.drop D).length := ⟨_, rfl⟩
    rw [← hnv] at ev
    clear hnv
    subst ev
    have HS7 := Stay.go HS6 b7
    have HG7 : Hid (GrsIn (fun g => (S g ∧ g < w.heap.size) ∨ Z ≤ g) w7 (.slice va nv vc) (M.drop D)) := G7
    clear b7 G7 HS6 k0 k1 k2 HGM HTR
    have X7 := HS7.out.now.1.1
    have R7 := HS7.out.now.2.2.1
    have hXl := X7.lt
    have hRl := R7.lt
    obtain ⟨x0, x1, x2⟩ := X7.three
    obtain ⟨y0, y1, y2⟩ := R7.three
    have f0 := X7.free
    have f1 := R7.free
    obtain ⟨Y, hY⟩ : ∃ Y, Y = (w7.setCell ⟨w1.heap.size + 1, 0, none⟩ (.int .i64 (first + D))).setCell ⟨w1.heap.size + 1, 1, none⟩ (.slice va nv vc) := ⟨_, rfl⟩
    have XY : Blk Y (w1.heap.size + 1) #[.int .i64 (first + D), .slice va nv vc, .slice a1 nq c1] 51 := by
      rw [hY]; exact (X7.set 0 (.int .i64 (first + D))).set 1 (.slice va nv vc)
    have RY : Blk Y (w.heap.size + 2) #[.int .i64 0, .slice none 0 0, .slice none 0 0] 51 := by
      rw [hY]; exact (R7.other (a := ⟨w1.heap.size + 1, 0, none⟩) (by simp; omega) _).other (a := ⟨w1.heap.size + 1, 1, none⟩) (by simp; omega) _
    have hYo : ∀ g, g ≠ w1.heap.size + 1 → Y.heap[g]? = w7.heap[g]? := fun g hg => by
      rw [hY, Below.heap_setCell _ _ _ _ (by exact hg), Below.heap_setCell _ _ _ _ (by exact hg)]
    have hYs : Y.heap.size = w7.heap.size := by rw [hY]; simp
    have BY : Below w.heap.size w Y := by
      rw [hY]; exact (HS7.out.now.2.2.2.2.2.setCell (by simp; omega) _).setCell (by simp; omega) _
    have finish : ∀ (u0 u1 u2 : Value) (U : World), U = ((Y.setCell ⟨w.heap.size + 1 + 1, 0, none⟩ u0).setCell ⟨w.heap.size + 1 + 1, 1, none⟩ u1).setCell ⟨w.heap.size + 1 + 1, 2, none⟩ u2 → Blk U (w.heap.size + 2) #[u0, u1, u2] 51 ∧ (∀ g, g ≠ w1.heap.size + 1 → g ≠ w.heap.size + 2 → U.heap[g]? = w7.heap[g]?) ∧ U.heap.size = w7.heap.size ∧ Below w.heap.size w U := fun u0 u1 u2 U hU => by
      refine ⟨by rw [hU]; exact ((RY.set 0 u0).set 1 u1).set 2 u2, fun g h1 h2 => ?_, by rw [hU]; simpa using hYs, ?_⟩
      · rw [hU, Below.heap_setCell _ _ _ _ (by exact h2), Below.heap_setCell _ _ _ _ (by exact h2), Below.heap_setCell _ _ _ _ (by exact h2)]
        exact hYo g h1
      · rw [hU]; exact ((BY.setCell (by simp; omega) _).setCell (by simp; omega) _).setCell (by simp; omega) _
    have HFIN : Hid (∀ (u0 u1 u2 : Value) (U : World), U = ((Y.setCell ⟨w.heap.size + 1 + 1, 0, none⟩ u0).setCell ⟨w.heap.size + 1 + 1, 1, none⟩ u1).setCell ⟨w.heap.size + 1 + 1, 2, none⟩ u2 → Blk U (w.heap.size + 2) #[u0, u1, u2] 51 ∧ (∀ g, g ≠ w1.heap.size + 1 → g ≠ w.heap.size + 2 → U.heap[g]? = w7.heap[g]?) ∧ U.heap.size = w7.heap.size ∧ Below w.heap.size w U) := finish
    have HQ7 : Hid (FrsIn (fun g => ((S g ∧ g < w.heap.size) ∨ w.heap.size + 3 ≤ g) ∧ g < w1.heap.size) w7 (.slice a1 nq c1) Q) := HS7.out.now.1.2
    have hne1 : ¬ w1.heap.size + 1 = w.heap.size + 1 + 1 := by omega
    have hne2 : ¬ w.heap.size + 1 + 1 = w1.heap.size + 1 := by omega
    clear finish X7 R7 XY RY hYo hYs BY HS7
    by_cases hbig : 100000 < first + (D : Int)
    · have hE : E = 2 := by rw [HE.out, if_pos hbig]
      obtain ⟨e1, e2, e3, e4⟩ := HBAD.out (by rw [hE]; decide)
      have HEE : Hid (E = 2 ∧ addsF first L O f = 0 ∧ addsL first L O f = [] ∧ addsO first L O f = [] ∧ addsB first L O f = false) := ⟨hE, e1, e2, e3, e4⟩
      obtain ⟨U, hU⟩ : ∃ U, U = ((Y.setCell ⟨w.heap.size + 1 + 1, 0, none⟩ (.int .i64 0)).setCell ⟨w.heap.size + 1 + 1, 1, none⟩ (.slice none 0 0)).setCell ⟨w.heap.size + 1 + 1, 2, none⟩ (.slice none 0 0) := ⟨_, rfl⟩
      obtain ⟨n1, n2, n3, n4⟩ := HFIN.out _ _ _ U hU
      have HU3 : Hid (Blk U (w.heap.size + 1 + 1) _ _) := n1
      have HN4 : Hid (Below w.heap.size w U) := n4
      rw [hY] at hU
      clear HBAD HGOOD HE hE e1 e2 e3 e4 HFIN n1 n2 n3 n4 hY
      go_wp2_with fail
      rw [← hU]
      obtain ⟨u0, u1, u2⟩ := HU3.out.three
      obtain ⟨h1, h2, h3, h4, h5⟩ := HEE.out
      rw [h1, h2, h3, h4, h5]
      exact bodyPost_ret (v := .tuple #[.agg #[.int .i64 0, .slice none 0 0, .slice none 0 0], .bool false, .int .i64 2]) (by simp [results, Try.results26, go_sem, u0, u1, u2]) rfl ⟨_, _, rfl, GrsIn.nil _ _, FrsIn.nil _ _, HN4.out⟩
    · have hE : E = 0 := by rw [HE.out, if_neg hbig]
      obtain ⟨e1, e2, e3, e4⟩ := HGOOD.out hE
      have HEE : Hid (E = 0 ∧ addsF first L O f = first + D ∧ addsL first L O f = M.drop D ∧ addsO first L O f = Q ∧ addsB first L O f = cl) := ⟨hE, e1, e2, e3, e4⟩
      obtain ⟨U, hU⟩ : ∃ U, U = ((Y.setCell ⟨w.heap.size + 1 + 1, 0, none⟩ (.int .i64 (first + D))).setCell ⟨w.heap.size + 1 + 1, 1, none⟩ (.slice va nv vc)).setCell ⟨w.heap.size + 1 + 1, 2, none⟩ (.slice a1 nq c1) := ⟨_, rfl⟩
      obtain ⟨n1, n2, n3, n4⟩ := HFIN.out _ _ _ U hU
      have GU : Hid (GrsIn (fun g => S g ∨ w.heap.size ≤ g) U (.slice va nv vc) (M.drop D)) := HG7.out.to ⟨by omega, fun g _ hg => n2 g (by rcases hg with hg | hg <;> omega) (by rcases hg with hg | hg <;> omega)⟩ (fun g _ h => h.imp (fun h => h.1) (fun h => by omega))
      have FU : Hid (FrsIn (fun g => S g ∨ w.heap.size ≤ g) U (.slice a1 nq c1) Q) := HQ7.out.to ⟨by omega, fun g _ hg => n2 g (by have := hg.2; omega) (by rcases hg.1 with h | h <;> omega)⟩ (fun g _ h => h.1.imp (fun h => h.1) (fun h => by omega))
      have HU3 : Hid (Blk U (w.heap.size + 1 + 1) _ _) := n1
      have HN4 : Hid (Below w.heap.size w U) := n4
      rw [hY] at hU
      clear HBAD HGOOD HE hE e1 e2 e3 e4 HFIN n1 n2 n3 n4 hY
      go_wp2_with fail
      rw [← hU]
      obtain ⟨u0, u1, u2⟩ := HU3.out.three
      obtain ⟨h1, h2, h3, h4, h5⟩ := HEE.out
      rw [h1, h2, h3, h4, h5]
      exact bodyPost_ret (v := .tuple #[.agg #[.int .i64 (first + D), .slice va nv vc, .slice a1 nq c1], .bool cl, .int .i64 0]) (by simp [results, Try.results26, go_sem, u0, u1, u2]) rfl ⟨_, _, rfl, GU.out, FU.out, HN4.out⟩

theorem refStoreAdd_any (first : Int) (gv ov pv : Value) (L : List (List Fr)) (O : List Fr) (f : Fr) (w : World) (hg : GrsIn (fun _ => True) w gv L) (ho : FrsIn (fun _ => True) w ov O) (hp : StrsIn (fun _ => True) w pv f.parts) (hr : stchk first L O = 0) (hf : f.chk = 0) :
    Calls Try.prog 26 #[.agg #[.int .i64 first, gv, ov], .agg #[.int .i64 f.time, .bool f.key, pv]] w fun e w' => ∃ gv' ov', e = .returned (.tuple #[.agg #[.int .i64 (addsF first L O f), gv', ov'], .bool (addsB first L O f), .int .i64 (addsE first L O f)]) ∧ GrsIn (fun _ => True) w' gv' (addsL first L O f) ∧ FrsIn (fun _ => True) w' ov' (addsO first L O f) ∧ Below w.heap.size w w' := by
  refine (refStoreAdd_in (fun _ => True) first gv ov pv L O f w hg ho hp hr hf).mono ?_
  rintro e w' ⟨gv', ov', rfl, h1, h2, h3⟩
  exact ⟨gv', ov', rfl, h1.mono (fun _ _ _ => trivial), h2.mono (fun _ _ _ => trivial), h3⟩

end Go.Proofs.Ytgmnhbmjnllhhac
