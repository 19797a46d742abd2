/-
 Contracts: raw.Read and what it defers.
-/
import Derived.Test.YtnpaejknoipicagGreatMgDeskPaused6
import Derived.Test.YtnpaejknoipicagGreatMgDeskPaused1
import Derived.Test.YtnpaejknoipicagGreatMgDeskPaused3
namespace Go.Proofs.YtnpaejknoipicagGreat
open Go.RowKit
theorem upG_group {O : List Fr} (h : O = [] ∨ gchk O = 0) : ∀ k, k ≤ O.length → upG O k = ([], O.take k) := by
 rcases h with h | h
 ·subst h; intro k hk
  have : k = 0 := by simpa using hk
  subst this; rfl
 ·obtain ⟨_, h6, hc⟩ := gchk_zero.1 h
  intro k
  induction k with
  | zero => intro _; rfl
  | succ k ih =>
   intro hk
   rw [upG_succ O k (by omega), ih (by omega), take_one (by omega) Fr.zero]
   have hin := (hc k (by omega)).2
   unfold inPl at hin
   by_cases h0 : k = 0
   ·subst h0
    rw [if_pos rfl] at hin
    simp [stepG, growG, hin]
   ·rw [if_neg h0] at hin
    simp only [Bool.and_eq_true, Bool.not_eq_true', decide_eq_true_eq] at hin
    have hl : (O.take k).length = k := by simp; omega
    have hlast : frAt (O.take k) (k - 1) = frAt O (k - 1) := by
     unfold frAt; rw [List.getElem?_take_of_lt (by omega)]
    simp only [stepG, hin.1, Bool.false_and, Bool.false_eq_true, if_false]
    unfold growG
    rw [if_neg (by rw [hin.1]; simp), hl, hlast, if_neg (by omega)]
theorem groups_more {O : List Fr} {f : Fr} (h : O = [] ∨ gchk O = 0) (hf : f.chk = 0) : groupsE (O ++ [f]) = 0 ∧ groupsR (O ++ [f]) = (if f.key && decide (0 < O.length) then [O] else [], growG O f) := by
 have hO6 : O.length ≤ 6 := by
  rcases h with h | h
  ·rw [h]; simp
  ·exact (gchk_zero.1 h).2.1
 have hok : ∀ k, k < (O ++ [f]).length → (frAt (O ++ [f]) k).chk = 0 := fun k hk => by
  by_cases hkl : k < O.length
  ·have e : frAt (O ++ [f]) k = frAt O k := by unfold frAt; rw [List.getElem?_append_left hkl]
   rw [e]
   rcases h with h | h
   ·rw [h] at hkl; simp at hkl
   ·exact ((gchk_zero.1 h).2.2 k hkl).1
  ·have : k = O.length := by simp at hk; omega
   subst this
   have e : frAt (O ++ [f]) O.length = f := by unfold frAt; simp
   rw [e]; exact hf
 have hE : groupsE (O ++ [f]) = 0 := by
  unfold groupsE
  rw [if_neg (by simp; omega)]
  exact goN_all _ _ (fun j _ hj => hok j (by omega))
 refine ⟨hE, ?_⟩
 unfold groupsR
 rw [if_pos hE]
 have h1 : upG (O ++ [f]) (O ++ [f]).length = stepG (upG O O.length) f := by
  unfold upG
  rw [List.take_length, List.take_length, List.foldl_append]; rfl
 rw [h1, upG_group h O.length (Nat.le_refl _), List.take_length]
 simp [stepG]
set_option maxHeartbeats 8000000 in
set_option maxRecDepth 100000 in
theorem keeperAdd_any (M : Nat) (first : Int) (gv ov pv : Value) (L : List (List Fr)) (O : List Fr) (f : Fr) (w : World) (hM : Blk w M #[.int .i64 first, gv, ov] 221) (hg : GrsIn (fun g => g ≠ M) w gv L) (ho : FrsIn (fun g => g ≠ M) w ov O) (hp : StrsIn (fun g => g ≠ M) w pv f.parts)
  (hL : L.length ≤ 5) (hLr : ∀ g ∈ L, gchk g = 0) (hOr : O = [] ∨ gchk O = 0) (hf : f.chk = 0) (hf0 : 0 ≤ first) (hf1 : first ≤ 100000) (C : List (List Fr)) (hC : C = if f.key && decide (0 < O.length) then [O] else []) :
  Calls Tryz.prog 179 #[.pointer (some ⟨M, 0, none⟩), .agg #[.int .i64 f.time, .bool f.key, pv]] w fun e w' => e = .returned (.bool (decide (0 < C.length))) ∧ ∃ gv' ov', Blk w' M #[.int .i64 (first + trimD (L ++ C)), gv', ov'] 221 ∧ GrsIn (fun g => w.heap.size ≤ g) w' gv' ((L ++ C).drop (trimD (L ++ C))) ∧ FrsIn (fun g => w.heap.size ≤ g) w' ov' (growG O f) ∧ Kept [M] w w' := by
 obtain ⟨hE, hR⟩ := groups_more hOr hf
 rw [← hC] at hR
 obtain ⟨R, hRR⟩ : ∃ R, R = growG O f := ⟨_, rfl⟩
 rw [← hRR] at hR
 obtain ⟨ga, gc, eg, _, _⟩ := hg.len
 obtain ⟨oa, oc, eo, _, _⟩ := ho.len
 obtain ⟨pa, pc, ep⟩ := hp.1.len
 obtain ⟨ln, hln⟩ : ∃ n, n = L.length := ⟨_, rfl⟩
 obtain ⟨lo, hlo⟩ : ∃ n, n = O.length := ⟨_, rfl⟩
 obtain ⟨pn, hpn⟩ : ∃ n, n = f.parts.length := ⟨_, rfl⟩
 rw [← hln] at eg
 rw [← hlo] at eo
 rw [← hpn] at ep
 have hO6 : O.length ≤ 6 := by
  rcases hOr with h | h
  ·rw [h]; simp
  ·exact (gchk_zero.1 h).2.1
 have hC1 : C.length ≤ 1 := by rw [hC]; split <;> simp
 have HX : Hid (∀ (U : World) (x : Value), FrsIn (fun _ => True) U x (O ++ [f]) → Calls Tryz.prog 183 #[x] U fun e w'' => ∃ ca cc fa fc, e = .returned (.tuple #[.slice ca C.length cc, .agg #[.slice fa R.length fc], .int .i64 0]) ∧ GrsIn (fun g => U.heap.size ≤ g) w'' (.slice ca C.length cc) C ∧ FrsIn (fun g => U.heap.size ≤ g) w'' (.slice fa R.length fc) R ∧ Below U.heap.size U w'') := fun U x hx => by
  have := groupAll_any x (O ++ [f]) U _ hx
  rw [hE, hR] at this
  exact this
 have HG : Hid (GrsIn (fun g => g ≠ M) w gv L) := hg
 have HO : Hid (FrsIn (fun g => g ≠ M) w ov O) := ho
 have HP : Hid (StrsIn (fun g => g ≠ M) w pv f.parts) := hp
 have HM : Hid (Blk w M #[.int .i64 first, gv, ov] 221) := hM
 have HLR : Hid (∀ g ∈ L, gchk g = 0) := hLr
 have HO6 : Hid (O.length ≤ 6) := hO6
 have HLO : Hid (lo = O.length) := hlo
 have hMw : M < w.heap.size := hM.lt
 rw [← hRR]
 clear hE hR hg ho hp hM hLr hOr hf hRR hC hln hpn hlo
 subst eg eo ep
 go_enter Tryz.func179, Tryz.ntmps179
 go_wp2_with fail
 obtain ⟨w1, hw1⟩ : ∃ w1, w1 = w.alloc (.cells #[.int .i64 f.time, .bool f.key, .slice pa pn pc] 98) := ⟨_, rfl⟩
 have B1 : Below w.heap.size w w1 := by rw [hw1]; exact (Below.refl _ _).alloc (Nat.le_refl _) _
 have KF : Blk w1 w.heap.size #[.int .i64 f.time, .bool f.key, .slice pa pn pc] 98 := by rw [hw1]; exact Blk.new _ _ _
 have KM : Blk w1 M #[.int .i64 first, .slice ga ln gc, .slice oa lo oc] 221 := HM.out.below B1 hMw
 have hw1s : w1.heap.size = w.heap.size + 1 := by rw [hw1]; simp
 rw [← hw1]
 have BB1 : Hid (Below w.heap.size w w1) := B1
 have KMH : Hid (Blk w1 M #[.int .i64 first, .slice ga ln gc, .slice oa lo oc] 221) := KM
 clear hw1 B1
 refine region_box (by kernel_rfl) (by kernel_rfl) [.quiet (.pointer (some ⟨M, 0, none⟩)) 5, .quiet (.pointer (some ⟨M, 0, none⟩)) 5, .quiet (.pointer (some ⟨M, 0, none⟩)) 5, .quiet (.pointer (some ⟨M, 2, none⟩)) 5, .quiet (.pointer (some ⟨M, 2, none⟩)) 5, .quiet (.slice oa lo oc) 5, .quiet (.agg #[.int .i64 f.time, .bool f.key, .slice pa pn pc]) 5, .step 0, .step 1, .step 2, .step 3, .fin 3 (fun x => x), .fin 3 (exT 0), .fin 3 (exT 1), .fin 3 (exT 2), .box, .fin 3 (exT 0), .step 4, .fin 3 (exT 2)] [7, 8, 9, 10, 17] 15 (by kernel_rfl)
  (AddI w1 f pa pn pc oa lo oc (O ++ [f]) C R 0) ?i0 ?step ?fin
 case i0 => exact ⟨⟨rfl, rfl, rfl, Nat.le_refl _, fun _ _ => rfl⟩, fun _ g hg => (by cases hg), trivial⟩
 case step =>
  intro i o ho a' w' s r b hI hfree hvals hbx
  have f0 : a'.eval (.tmp 0) = .pointer (some ⟨M, 0, none⟩) := (hfree 0 (by kernel_rfl)).trans rfl
  have f3 : a'.eval (.tmp 3) = .pointer (some ⟨w.heap.size, 0, none⟩) := (hfree 3 (by kernel_rfl)).trans rfl
  have hBw : Below w1.heap.size w1 w' := hI.1
  have hMw1 := KM.lt
  have hFw1 := KF.lt
  obtain ⟨_, _, y2⟩ := (KM.below hBw hMw1).three
  obtain ⟨z0, z1, z2⟩ := (KF.below hBw hFw1).three
  have hR3 : 3 < s → ∃ ca cc fa fc, r 3 = .tuple #[.slice ca C.length cc, .agg #[.slice fa R.length fc], .int .i64 0] := fun hs => by
   match s, hs, hI.2.2 with
   | 4, _, ⟨ca, cc, fa, fc, e, _⟩ => exact ⟨ca, cc, fa, fc, e⟩
   | _ + 5, _, ⟨_, ca, cc, fa, fc, _, _, e, _⟩ => exact ⟨ca, cc, fa, fc, e⟩
  match i, ho with
  | 0, ho =>
   simp at ho; subst ho
   show s ≤ 5 → (execOp a'.eval _).run _ w' = .ok (.value _) w'
   intro _
   generalize a'.eval = ρ at *
   simp [execOp, go_sem, f0]
  | 1, ho =>
   simp at ho; subst ho
   have e1 : a'.eval (.tmp 9) = .pointer (some ⟨M, 0, none⟩) := hvals 0 _ _ (by kernel_rfl) rfl rfl
   show s ≤ 5 → (execOp a'.eval _).run _ w' = .ok (.value _) w'
   intro _
   generalize a'.eval = ρ at *
   simp [execOp, go_sem, e1]
  | 2, ho =>
   simp at ho; subst ho
   have e1 : a'.eval (.tmp 10) = .pointer (some ⟨M, 0, none⟩) := hvals 1 _ _ (by kernel_rfl) rfl rfl
   show s ≤ 5 → (execOp a'.eval _).run _ w' = .ok (.value _) w'
   intro _
   generalize a'.eval = ρ at *
   simp [execOp, go_sem, e1]
  | 3, ho =>
   simp at ho; subst ho
   have e1 : a'.eval (.tmp 11) = .pointer (some ⟨M, 0, none⟩) := hvals 2 _ _ (by kernel_rfl) rfl rfl
   show s ≤ 5 → (execOp a'.eval _).run _ w' = .ok (.value _) w'
   intro _
   generalize a'.eval = ρ at *
   simp [execOp, go_sem, e1]
  | 4, ho =>
   simp at ho; subst ho
   have e1 : a'.eval (.tmp 12) = .pointer (some ⟨M, 2, none⟩) := hvals 3 _ _ (by kernel_rfl) rfl rfl
   show s ≤ 5 → (execOp a'.eval _).run _ w' = .ok (.value _) w'
   intro _
   generalize a'.eval = ρ at *
   simp [execOp, go_sem, e1]
  | 5, ho =>
   simp at ho; subst ho
   have e1 : a'.eval (.tmp 13) = .pointer (some ⟨M, 2, none⟩) := hvals 4 _ _ (by kernel_rfl) rfl rfl
   show s ≤ 5 → (execOp a'.eval _).run _ w' = .ok (.value _) w'
   intro _
   generalize a'.eval = ρ at *
   simp [execOp, go_sem, e1, y2]
  | 6, ho =>
   simp at ho; subst ho
   show s ≤ 5 → (execOp a'.eval _).run _ w' = .ok (.value _) w'
   intro _
   generalize a'.eval = ρ at *
   simp [execOp, go_sem, f3, z0, z1, z2]
  | 7, ho =>
   simp at ho; subst ho
   have e1 : a'.eval (.tmp 15) = .agg #[.int .i64 f.time, .bool f.key, .slice pa pn pc] := hvals 6 _ _ (by kernel_rfl) rfl rfl
   show s = 0 → _
   intro hs
   subst hs
   refine oper_wp_ok (v := .slice (some ⟨w'.heap.size, 0, none⟩) 1 1) (w' := w'.alloc (.cells #[.int .i64 f.time, .bool f.key, .slice pa pn pc] 98)) ?_ ⟨_, rfl, hBw.alloc hBw.size _, fun _ g hg => ⟨(hI.2.1 (by omega) g hg).1, (hI.2.1 (by omega) g hg).2.alloc _⟩, w'.heap.size, updR_at _ _ _, Blk.new _ _ _⟩
   generalize a'.eval = ρ at *
   simp [execOp, go_sem, e1]
  | 8, ho =>
   simp at ho; subst ho
   show s = 1 → _
   intro hs
   subst hs
   obtain ⟨g1, q1, q2⟩ := hI.2.2
   have e1 : a'.eval (.tmp 14) = .slice oa lo oc := hvals 5 _ _ (by kernel_rfl) rfl rfl
   have e2 : a'.eval (.tmp 16) = .slice (some ⟨g1, 0, none⟩) 1 1 := (hvals 7 _ _ (by kernel_rfl) rfl rfl).trans q1
   refine oper_wp_ok (v := .slice (some ⟨w'.heap.size, 0, none⟩) 2 2) (w' := w'.alloc (.cells #[.slice oa lo oc, .slice (some ⟨g1, 0, none⟩) 1 1] 28)) ?_ ⟨_, rfl, hBw.alloc hBw.size _, fun _ g hg => ⟨(hI.2.1 (by omega) g hg).1, (hI.2.1 (by omega) g hg).2.alloc _⟩, g1, w'.heap.size, updR_at _ _ _, q2.alloc _, Blk.new _ _ _⟩
   generalize a'.eval = ρ at *
   simp [execOp, go_sem, e1, e2]
  | 9, ho =>
   simp at ho; subst ho
   show s = 2 → _
   intro hs
   subst hs
   obtain ⟨g1, g2, q1, q2, q3⟩ := hI.2.2
   have e1 : a'.eval (.tmp 17) = .slice (some ⟨g2, 0, none⟩) 2 2 := (hvals 8 _ _ (by kernel_rfl) rfl rfl).trans q1
   have ef : a'.eval (.func 184) = .func (.func 184) #[] #[] := rfl
   obtain ⟨t0, t1⟩ := q3.two
   have hbw : Below w.heap.size w w' := BB1.out.trans (hBw.mono BB1.out.size)
   have hc := concatFrs_any (fun _ => True) g2 (.slice oa lo oc) (.slice (some ⟨g1, 0, none⟩) 1 1) O [f] w' t0 t1 ((HO.out.below hbw).mono fun _ _ _ => trivial) (FrsIn.one q2 trivial ((HP.out.below hbw).mono fun _ _ _ => trivial)) (by have := HO6.out; simp; omega)
   refine oper_wp_call (f := 184) (args := #[.slice (some ⟨g2, 0, none⟩) 2 2]) ?_ (hc.mono ?_)
   ·generalize a'.eval = ρ at *
    simp [execOp, go_sem, e1, ef]
   ·rintro e w'' ⟨u, rfl, o1, b1⟩
    exact ⟨u, rfl, u, rfl, hBw.trans (b1.mono hBw.size), fun _ g hg => ⟨(hI.2.1 (by omega) g hg).1, (hI.2.1 (by omega) g hg).2.below b1 (hI.2.1 (by omega) g hg).2.lt⟩, by show FrsIn _ _ _ _; rw [updR_at]; exact o1.frsIn (fun _ _ _ => trivial) (fun _ _ => trivial)⟩
  | 10, ho =>
   simp at ho; subst ho
   show s = 3 → _
   intro hs
   subst hs
   have e1 : a'.eval (.tmp 18) = r 2 := hvals 9 _ _ (by kernel_rfl) rfl rfl
   have ef : a'.eval (.func 183) = .func (.func 183) #[] #[] := rfl
   refine oper_wp_call (f := 183) (args := #[r 2]) ?_ ((HX.out w' (r 2) hI.2.2).mono ?_)
   ·generalize a'.eval = ρ at *
    simp [execOp, go_sem, e1, ef]
   ·rintro e w'' ⟨ca, cc, fa, fc, rfl, s1, s2, b1⟩
    have hne : ∀ x, w'.heap.size ≤ x → b ≠ some x := fun x hx e => by have := (hI.2.1 (by omega) x e).2.lt; omega
    exact ⟨_, rfl, _, rfl, hBw.trans (b1.mono hBw.size), fun _ g hg => ⟨(hI.2.1 (by omega) g hg).1, (hI.2.1 (by omega) g hg).2.below b1 (hI.2.1 (by omega) g hg).2.lt⟩, ca, cc, fa, fc, updR_at _ _ _, s1.mono fun x _ hx => ⟨hne x hx, by have := hBw.size; omega⟩, s2.mono fun x _ hx => ⟨hne x hx, by have := hBw.size; omega⟩⟩
  | 11, ho =>
   simp at ho; subst ho
   have e1 : a'.eval (.tmp 19) = r 3 := hvals 10 _ _ (by kernel_rfl) rfl rfl
   show 3 < s → (execOp a'.eval _).run _ w' = .ok (.value _) w'
   intro hs
   obtain ⟨ca, cc, fa, fc, er⟩ := hR3 hs
   rw [er] at e1 ⊢
   generalize a'.eval = ρ at *
   simp [execOp, go_sem, e1]
  | 12, ho =>
   simp at ho; subst ho
   have e1 : a'.eval (.tmp 8) = r 3 := hvals 11 _ _ (by kernel_rfl) rfl rfl
   show 3 < s → (execOp a'.eval _).run _ w' = .ok (.value _) w'
   intro hs
   obtain ⟨ca, cc, fa, fc, er⟩ := hR3 hs
   rw [er] at e1 ⊢
   simp only [exT] at e1 ⊢
   generalize a'.eval = ρ at *
   simp [execOp, go_sem, e1]
  | 13, ho =>
   simp at ho; subst ho
   have e1 : a'.eval (.tmp 8) = r 3 := hvals 11 _ _ (by kernel_rfl) rfl rfl
   show 3 < s → (execOp a'.eval _).run _ w' = .ok (.value _) w'
   intro hs
   obtain ⟨ca, cc, fa, fc, er⟩ := hR3 hs
   rw [er] at e1 ⊢
   simp only [exT] at e1 ⊢
   generalize a'.eval = ρ at *
   simp [execOp, go_sem, e1]
  | 14, ho =>
   simp at ho; subst ho
   have e1 : a'.eval (.tmp 8) = r 3 := hvals 11 _ _ (by kernel_rfl) rfl rfl
   show 3 < s → (execOp a'.eval _).run _ w' = .ok (.value _) w'
   intro hs
   obtain ⟨ca, cc, fa, fc, er⟩ := hR3 hs
   rw [er] at e1 ⊢
   simp only [exT] at e1 ⊢
   generalize a'.eval = ρ at *
   simp [execOp, go_sem, e1]
  | 15, ho =>
   simp at ho; subst ho
   show b = none → _
   intro hb
   subst hb
   refine ⟨.cells #[.slice none 0 0] 30, ?_, hI.box⟩
   generalize a'.eval = ρ at *
   simp [execOp, go_sem]
  | 16, ho =>
   simp at ho; subst ho
   have e1 : a'.eval (.tmp 20) = exT 0 (r 3) := hvals 12 _ _ (by kernel_rfl) rfl rfl
   show 3 < s → (execOp a'.eval _).run _ w' = .ok (.value _) w'
   intro hs
   obtain ⟨ca, cc, fa, fc, er⟩ := hR3 hs
   rw [er] at e1 ⊢
   simp only [exT] at e1 ⊢
   generalize a'.eval = ρ at *
   simp [execOp, go_sem, e1]
  | 17, ho =>
   simp at ho; subst ho
   show s = 4 → _
   intro hs
   subst hs
   obtain ⟨ca, cc, fa, fc, er, s1, s2⟩ := hI.2.2
   obtain ⟨g, hg⟩ := Option.isSome_iff_exists.1 (hbx (by kernel_rfl))
   subst hg
   obtain ⟨hgb, kg⟩ := hI.2.1 (by omega) g rfl
   have e1 : a'.eval (.tmp 6) = .pointer (some ⟨g, 0, none⟩) := hvals 15 _ _ (by kernel_rfl) rfl rfl
   have e2 : a'.eval (.tmp 21) = .agg #[.slice fa R.length fc] := (hvals 13 _ _ (by kernel_rfl) rfl rfl).trans (by show exT 1 (r 3) = _; rw [er]; rfl)
   have t0 := kg.one
   have t1 := kg.free 0
   refine oper_wp_skip (w' := w'.setCell ⟨g, 0, none⟩ (.slice fa R.length fc)) ?_ ⟨_, rfl, hBw.setCell hgb _, fun h => absurd h (by omega), ?_⟩
   ·generalize a'.eval = ρ at *
    simp [execOp, go_sem, e1, e2, t0, t1]
   ·exact ⟨g, ca, cc, fa, fc, rfl, hgb, by rw [updR_ne (by omega)]; exact er, s1.to (SameOn.setCell (fun x hx e => hx.1 (by rw [e])) _) (fun _ _ h => h), s2.to (SameOn.setCell (fun x hx e => hx.1 (by rw [e])) _) (fun _ _ h => h), kg.set 0 _⟩
  | 18, ho =>
   simp at ho; subst ho
   have e1 : a'.eval (.tmp 22) = exT 2 (r 3) := hvals 14 _ _ (by kernel_rfl) rfl rfl
   show 3 < s → (execOp a'.eval _).run _ w' = .ok (.value _) w'
   intro hs
   obtain ⟨ca, cc, fa, fc, er⟩ := hR3 hs
   rw [er] at e1 ⊢
   simp only [exT] at e1 ⊢
   generalize a'.eval = ρ at *
   simp [execOp, go_sem, e1]
  | i + 19, ho => simp at ho
 case fin =>
  rintro r g W ⟨hB, _, g', ca, cc, fa, fc, hgg, hg1, er, s1, s2, kg⟩
  injection hgg with hgg
  subst hgg
  simp only [putB, Cb.out, er, exT]
  obtain ⟨nC, hnC⟩ : ∃ n, n = C.length := ⟨_, rfl⟩
  obtain ⟨nR, hnR⟩ : ∃ n, n = R.length := ⟨_, rfl⟩
  rw [← hnC] at s1
  rw [← hnR] at s2 kg
  have HNC : Hid (nC = C.length) := hnC
  simp only [← hnC, ← hnR]
  have KMW : Blk W M #[.int .i64 first, .slice ga ln gc, .slice oa lo oc] 221 := KMH.out.below hB KMH.out.lt
  have BW : Below w.heap.size w W := BB1.out.trans (hB.mono BB1.out.size)
  have GW : GrsIn (fun x => x ≠ M) W (.slice ga ln gc) L := HG.out.below BW
  have hMW : M < W.heap.size := KMW.lt
  have HCLN : Hid (Calls Tryz.prog 69 #[.slice ga ln gc] W fun e w' => ∃ u, e = .returned u ∧ OwnGrs W.heap.size (NS W.heap.size u) w' u L ∧ Below W.heap.size W w') := cloneGroups_any _ _ L W GW (by omega) HLR.out
  have S1 : Hid (GrsIn (fun x => w1.heap.size ≤ x ∧ x < W.heap.size) W (.slice ca nC cc) C) := s1.mono fun x hx h => ⟨h.2, hx⟩
  have S2 : Hid (FrsIn (fun x => w1.heap.size ≤ x ∧ x < W.heap.size) W (.slice fa nR fc) R) := s2.mono fun x hx h => ⟨h.2, hx⟩
  have KG : Hid (Blk W g #[.slice fa nR fc] 30) := kg
  have KMW2 : Hid (Blk W M #[.int .i64 first, .slice ga ln gc, .slice oa lo oc] 221) := KMW
  have HKW : Hid (Kept [M] w W) := (Kept.refl [M] w).below BW
  have hgM : g ≠ M := by omega
  have hWw : w.heap.size ≤ W.heap.size := BW.size
  obtain ⟨q0, q1, q2⟩ := KMW.three
  clear s1 s2 kg hB er BW GW KMW
  have HNR : Hid (nR = R.length) := hnR
  clear hnC hnR KM KF
  go_wp2_with fail
  refine HCLN.out.mono ?_
  rintro e w2 ⟨u, rfl, ou, bu⟩
  have hu : ∀ x, u.ownBlock = some x → W.heap.size ≤ x ∧ x < w2.heap.size := ou.lt
  have O2 : OwnGrs W.heap.size (fun x => w.heap.size ≤ x ∧ some x ≠ u.ownBlock ∧ x < w2.heap.size) w2 u L := ou.to (SameOn.refl _ _) (fun x hx h => ⟨by have := h.1; omega, h.2, hx⟩) (fun _ _ => rfl)
  have S3 : GrsIn (fun x => w.heap.size ≤ x ∧ some x ≠ u.ownBlock ∧ x < w2.heap.size) w2 (.slice ca nC cc) C := (S1.out.below bu).mono fun x hx h => ⟨by have := h.1; omega, fun e => (by have := (hu x e.symm).1; omega), hx⟩
  obtain ⟨qs, t1, t2, t3⟩ := S3.sl
  obtain ⟨v', w3, r3, o3, g3, dd⟩ := groups_app O2 t1 t2 t3 (fun x hx => hx.2.1) (by omega) bu.size
  have hg3 : ∀ x, x < W.heap.size → w3.heap[x]? = W.heap[x]? := fun x hx => (g3.block x (Nat.lt_of_lt_of_le hx bu.size) (fun e => by have := (hu x e.symm).1; omega)).trans (bu.block x hx)
  have hs3 : w2.heap.size ≤ w3.heap.size := g3.size
  have hWs3 : W.heap.size ≤ w3.heap.size := Nat.le_trans bu.size hs3
  have BW3 : Below W.heap.size W w3 := bu.grown g3 bu.size (fun x hx => (hu x hx).1)
  have K3 : Blk w3 M #[.int .i64 first, .slice ga ln gc, .slice oa lo oc] 221 := (hg3 M hMW).trans KMW2.out
  have G3 : Blk w3 g #[.slice fa nR fc] 30 := (hg3 g KG.out.lt).trans KG.out
  have hv' : ∀ x, v'.ownBlock = some x → W.heap.size ≤ x := fun x hx => (o3.lt x hx).1
  have V3 : GrsIn (fun x => w.heap.size ≤ x) w3 v' (L ++ C) := o3.grsIn (fun x _ h => h.1) (fun x hx => by have := hv' x hx; omega)
  have R3 : FrsIn (fun x => w.heap.size ≤ x) w3 (.slice fa nR fc) R := S2.out.to ⟨hWs3, fun x hx _ => hg3 x hx⟩ (fun x _ h => by have := h.1; omega)
  obtain ⟨va, vc, ev, _, _⟩ := V3.len
  obtain ⟨nV, hnV⟩ : ∃ n, n = (L ++ C).length := ⟨_, rfl⟩
  rw [← hnV] at ev
  clear hnV
  have c1 := K3.three
  obtain ⟨c10, c11, c12⟩ := c1
  have fr := K3.free
  have cg := G3.one
  obtain ⟨w5, hw5⟩ : ∃ w5, w5 = (w3.setCell ⟨M, 1, none⟩ v').setCell ⟨M, 2, none⟩ (.slice fa nR fc) := ⟨_, rfl⟩
  have K5 : Blk w5 M #[.int .i64 first, v', .slice fa nR fc] 221 := by
   rw [hw5]; exact (K3.set 1 v').set 2 (.slice fa nR fc)
  have same5 : SameOn (fun x => w.heap.size ≤ x) w3 w5 := by
   rw [hw5]
   exact (SameOn.setCell (S := fun x => w.heap.size ≤ x) (w := w3) (a := ⟨M, 1, none⟩) (fun x hx => (by show x ≠ M; omega)) v').trans (SameOn.setCell (S := fun x => w.heap.size ≤ x) (w := w3.setCell ⟨M, 1, none⟩ v') (a := ⟨M, 2, none⟩) (fun x hx => (by show x ≠ M; omega)) (.slice fa nR fc))
  have V5 : GrsIn (fun x => w.heap.size ≤ x) w5 v' (L ++ C) := V3.to same5 (fun _ _ h => h)
  have R5 : Hid (FrsIn (fun x => w.heap.size ≤ x) w5 (.slice fa nR fc) R) := R3.to same5 (fun _ _ h => h)
  have P5 : Hid (Kept [M] w w5) := by
   rw [hw5]; exact ((HKW.out.below BW3).setCell (by simp) _).setCell (by simp) _
  have HLG : Hid (Calls Tryz.prog 185 #[.pointer (some ⟨M, 0, none⟩)] w5 fun e w' => e = .returned (.tuple #[]) ∧ ∃ gv', Blk w' M #[.int .i64 (first + trimD (L ++ C)), gv', .slice fa nR fc] 221 ∧ GrsIn (fun x => w.heap.size ≤ x) w' gv' ((L ++ C).drop (trimD (L ++ C))) ∧ Kept [M] w5 w') := letGo_any M first v' _ (L ++ C) _ w5 K5 V5 (fun x hx => (by show x ≠ M; omega)) (by simp; omega) hf0 (by omega)
  clear ou bu hu O2 S3 t1 t2 t3 o3 g3 dd hg3 hs3 BW3 K3 G3 hv' V3 R3 K5 V5 same5 q0 q1 q2 HCLN
  subst ev
  go_wp2_with (at_builtin; refine wpList_append_run rfl (.tmp 29) (.tmp 30) 27 27 rfl _ _ rfl rfl r3 ?_)
  rw [← hw5]
  refine HLG.out.mono ?_
  rintro e w6 ⟨rfl, gv', k6, v6, p6⟩
  have R6 : FrsIn (fun x => w.heap.size ≤ x) w6 (.slice fa nR fc) R := R5.out.to ⟨p6.size, fun x hx h => p6.block x hx (by simp; omega)⟩ (fun _ _ h => h)
  have FIN : Hid (∃ gv' ov', Blk w6 M #[.int .i64 (first + trimD (L ++ C)), gv', ov'] 221 ∧ GrsIn (fun g => w.heap.size ≤ g) w6 gv' ((L ++ C).drop (trimD (L ++ C))) ∧ FrsIn (fun g => w.heap.size ≤ g) w6 ov' R ∧ Kept [M] w w6) := ⟨gv', .slice fa nR fc, k6, v6, R6, P5.out.trans p6⟩
  clear k6 v6 p6 R6 R5 P5 HLG hw5 c10 c11 c12 fr cg r3
  go_wp2
  go_ret
  exact ⟨by rw [← HNC.out]; first | rfl | simp, FIN.out⟩
def closedG (O : List Fr) (f : Fr) : List (List Fr) := if f.key && decide (0 < O.length) then [O] else []
def addsE (first : Int) (L : List (List Fr)) (O : List Fr) (f : Fr) : Int := if stchk first L O = 0 then (if f.chk = 0 then (if 100000 < first + trimD (L ++ closedG O f) then 2 else 0) else f.chk) else stchk first L O
def addsF (first : Int) (L : List (List Fr)) (O : List Fr) (f : Fr) : Int := if addsE first L O f = 0 then first + trimD (L ++ closedG O f) else 0
def addsL (first : Int) (L : List (List Fr)) (O : List Fr) (f : Fr) : List (List Fr) := if addsE first L O f = 0 then (L ++ closedG O f).drop (trimD (L ++ closedG O f)) else []
def addsO (first : Int) (L : List (List Fr)) (O : List Fr) (f : Fr) : List Fr := if addsE first L O f = 0 then growG O f else []
def addsB (first : Int) (L : List (List Fr)) (O : List Fr) (f : Fr) : Bool := if addsE first L O f = 0 then decide (0 < (closedG O f).length) else false
set_option maxHeartbeats 8000000 in
set_option maxRecDepth 100000 in
theorem storeAdd_new (first : Int) (gv ov pv : Value) (L : List (List Fr)) (O : List Fr) (f : Fr) (w : World) (hg : GrsIn (fun _ => True) w gv L) (ho : FrsIn (fun _ => True) w ov O) (hp : StrsIn (fun _ => True) w pv f.parts) :
  Calls Tryz.prog 172 #[.agg #[.int .i64 first, gv, ov], .agg #[.int .i64 f.time, .bool f.key, pv]] w fun e w' => ∃ gv' ov', e = .returned (.tuple #[.agg #[.int .i64 (addsF first L O f), gv', ov'], .bool (addsB first L O f), .int .i64 (addsE first L O f)]) ∧ GrsIn (fun g => w.heap.size ≤ g) w' gv' (addsL first L O f) ∧ FrsIn (fun g => w.heap.size ≤ g) w' ov' (addsO first L O f) ∧ Below w.heap.size w w' := by
 obtain ⟨ga, gc, eg, _, _⟩ := hg.len
 obtain ⟨oa, oc, eo, _, _⟩ := ho.len
 obtain ⟨pa, pc, ep⟩ := hp.1.len
 obtain ⟨ln, hln⟩ : ∃ n, n = L.length := ⟨_, rfl⟩
 obtain ⟨lo, hlo⟩ : ∃ n, n = O.length := ⟨_, rfl⟩
 obtain ⟨pn, hpn⟩ : ∃ n, n = f.parts.length := ⟨_, rfl⟩
 rw [← hln] at eg
 rw [← hlo] at eo
 rw [← hpn] at ep
 have HG : Hid (GrsIn (fun g => g < w.heap.size) w gv L) := hg.mono fun g h _ => h
 have HO : Hid (FrsIn (fun g => g < w.heap.size) w ov O) := ho.mono fun g h _ => h
 have HP : Hid (StrsIn (fun g => g < w.heap.size) w pv f.parts) := hp.mono fun g h _ => h
 obtain ⟨E, hE⟩ : ∃ E, E = addsE first L O f := ⟨_, rfl⟩
 obtain ⟨K, hK⟩ : ∃ K, K = stchk first L O := ⟨_, rfl⟩
 obtain ⟨Z, hZ⟩ : ∃ Z, Z = f.chk := ⟨_, rfl⟩
 obtain ⟨C, hC⟩ : ∃ C, C = closedG O f := ⟨_, rfl⟩
 have HE : Hid (E = if K = 0 then (if Z = 0 then (if 100000 < first + trimD (L ++ C) then 2 else 0) else Z) else K) := by show _ = _; rw [hE, hK, hZ, hC]; rfl
 have HBAD : Hid (¬ E = 0 → addsF first L O f = 0 ∧ addsL first L O f = [] ∧ addsO first L O f = [] ∧ addsB first L O f = false) := fun h => by
  rw [hE] at h
  exact ⟨if_neg h, if_neg h, if_neg h, if_neg h⟩
 have HGOOD : Hid (E = 0 → addsF first L O f = first + trimD (L ++ C) ∧ addsL first L O f = (L ++ C).drop (trimD (L ++ C)) ∧ addsO first L O f = growG O f ∧ addsB first L O f = decide (0 < C.length)) := fun h => by
  rw [hE] at h
  rw [hC]
  exact ⟨if_pos h, if_pos h, if_pos h, if_pos h⟩
 have HCK : Hid (∀ U, Below w.heap.size w U → Calls Tryz.prog 103 #[.agg #[.int .i64 first, gv, ov]] U fun e w' => e = .returned (.int .i64 K) ∧ Below U.heap.size U w') := fun U hU => by
  rw [hK]; exact storeCheck_any _ first gv ov L O U (HG.out.below hU) (HO.out.below hU)
 have HCF : Hid (∀ U, Below w.heap.size w U → Calls Tryz.prog 94 #[.agg #[.int .i64 f.time, .bool f.key, pv]] U fun e w' => e = .returned (.int .i64 Z) ∧ Below U.heap.size U w') := fun U hU => by
  rw [hZ]; exact frameCheck_any _ _ _ _ _ (HP.out.below hU).1 HP.out.2.1
 have HADD : Hid (K = 0 → Z = 0 → ∀ (M : Nat) (U : World), w.heap.size ≤ M → Blk U M #[.int .i64 first, gv, ov] 221 → Below w.heap.size w U → Calls Tryz.prog 179 #[.pointer (some ⟨M, 0, none⟩), .agg #[.int .i64 f.time, .bool f.key, pv]] U fun e w' => e = .returned (.bool (decide (0 < C.length))) ∧ ∃ gv' ov', Blk w' M #[.int .i64 (first + trimD (L ++ C)), gv', ov'] 221 ∧ GrsIn (fun g => U.heap.size ≤ g) w' gv' ((L ++ C).drop (trimD (L ++ C))) ∧ FrsIn (fun g => U.heap.size ≤ g) w' ov' (growG O f) ∧ Kept [M] U w') := fun h1 h2 M U hM hk hU => by
  have h1' : stchk first L O = 0 := by rw [← hK]; exact h1
  obtain ⟨a1, a2, a3, a4, _, a6⟩ := stchk_zero.1 h1'
  exact keeperAdd_any M first gv ov pv L O f U hk ((HG.out.below hU).mono fun g _ h => by omega) ((HO.out.below hU).mono fun g _ h => by omega) ((HP.out.below hU).mono fun g _ h => by omega) a3 a4 a6 (by rw [← hZ]; exact h2) a1 a2 C hC
 have HTR : Hid (K = 0 → 0 ≤ first ∧ first ≤ 100000) := fun h => by
  have h1' : stchk first L O = 0 := by rw [← hK]; exact h
  obtain ⟨a1, a2, _⟩ := stchk_zero.1 h1'
  exact ⟨a1, a2⟩
 have HEE : Hid (E = addsE first L O f) := hE
 clear hg ho hp hE hK hZ hC hln hlo hpn
 subst eg eo ep
 go_enter Tryz.func172, Tryz.ntmps172
 go_wp2_with fail
 obtain ⟨w1, hw1⟩ : ∃ w1, w1 = ((w.alloc (.cells #[.int .i64 first, .slice ga ln gc, .slice oa lo oc] 32)).alloc (.cells #[.int .i64 f.time, .bool f.key, .slice pa pn pc] 98)).alloc (.cells #[.int .i64 0, .slice none 0 0, .slice none 0 0] 32) := ⟨_, rfl⟩
 have B1 : Hid (Below w.heap.size w w1) := by
  rw [hw1]; exact (((Below.refl _ _).alloc (Nat.le_refl _) _).alloc (by simp) _).alloc (by simp; omega) _
 have K1 : Hid (Blk w1 w.heap.size #[.int .i64 first, .slice ga ln gc, .slice oa lo oc] 32) := by rw [hw1]; exact ((Blk.new w _ _).alloc _).alloc _
 have F1 : Hid (Blk w1 (w.heap.size + 1) #[.int .i64 f.time, .bool f.key, .slice pa pn pc] 98) := by
  have := (Blk.new (w.alloc (.cells #[.int .i64 first, .slice ga ln gc, .slice oa lo oc] 32)) #[.int .i64 f.time, .bool f.key, .slice pa pn pc] 98).alloc (.cells #[.int .i64 0, .slice none 0 0, .slice none 0 0] 32)
  rw [hw1]; simpa [Hid] using this
 have R1 : Hid (Blk w1 (w.heap.size + 1 + 1) #[.int .i64 0, .slice none 0 0, .slice none 0 0] 32) := by
  have := Blk.new ((w.alloc (.cells #[.int .i64 first, .slice ga ln gc, .slice oa lo oc] 32)).alloc (.cells #[.int .i64 f.time, .bool f.key, .slice pa pn pc] 98)) #[.int .i64 0, .slice none 0 0, .slice none 0 0] 32
  rw [hw1]; simpa [Hid] using this
 rw [← hw1]
 clear hw1
 refine (HCK.out _ B1.out).mono ?_
 rintro e w2 ⟨rfl, hb⟩
 have B2 : Hid (Below w.heap.size w w2) := B1.out.trans (hb.mono B1.out.size)
 have K2 : Hid (Blk w2 w.heap.size #[.int .i64 first, .slice ga ln gc, .slice oa lo oc] 32) := K1.out.below hb K1.out.lt
 have F2 : Hid (Blk w2 (w.heap.size + 1) #[.int .i64 f.time, .bool f.key, .slice pa pn pc] 98) := F1.out.below hb F1.out.lt
 have R2 : Hid (Blk w2 (w.heap.size + 1 + 1) #[.int .i64 0, .slice none 0 0, .slice none 0 0] 32) := R1.out.below hb R1.out.lt
 clear hb B1 K1 F1 R1 HCK
 by_cases hK : K = 0
 case neg =>
  have HEK : Hid (E = K) := by show _ = _; rw [HE.out, if_neg hK]
  obtain ⟨r0, r1, r2⟩ := R2.out.three
  have fr := R2.out.free
  go_wp2
  obtain ⟨b1, b2, b3, b4⟩ := HBAD.out (by rw [HEK.out]; exact hK)
  rw [b1, b2, b3, b4, ← HEE.out, HEK.out]
  refine bodyPost_ret (v := .tuple #[.agg #[.int .i64 0, .slice none 0 0, .slice none 0 0], .bool false, .int .i64 K]) (by simp [results, Tryz.results172, go_sem, r0, r1, r2]) rfl ⟨_, _, rfl, GrsIn.nil _ _, FrsIn.nil _ _, ?_⟩
  first | exact B2.out | exact ((B2.out.setCell (by show _ ≤ w.heap.size + 1 + 1; omega) _).setCell (by show _ ≤ w.heap.size + 1 + 1; omega) _).setCell (by show _ ≤ w.heap.size + 1 + 1; omega) _
 obtain ⟨hf0, hf1⟩ := HTR.out hK
 obtain ⟨f0, f1, f2⟩ := F2.out.three
 go_wp2_with fail
 refine (HCF.out _ B2.out).mono ?_
 rintro e w3 ⟨rfl, hb⟩
 have B3 : Hid (Below w.heap.size w w3) := B2.out.trans (hb.mono B2.out.size)
 have K3 : Hid (Blk w3 w.heap.size #[.int .i64 first, .slice ga ln gc, .slice oa lo oc] 32) := K2.out.below hb K2.out.lt
 have F3 : Hid (Blk w3 (w.heap.size + 1) #[.int .i64 f.time, .bool f.key, .slice pa pn pc] 98) := F2.out.below hb F2.out.lt
 have R3 : Hid (Blk w3 (w.heap.size + 1 + 1) #[.int .i64 0, .slice none 0 0, .slice none 0 0] 32) := R2.out.below hb R2.out.lt
 clear hb B2 K2 F2 R2 HCF f0 f1 f2
 by_cases hZ : Z = 0
 case neg =>
  have HEK : Hid (E = Z) := by show _ = _; rw [HE.out, if_pos hK, if_neg hZ]
  obtain ⟨r0, r1, r2⟩ := R3.out.three
  have fr := R3.out.free
  subst hK
  go_wp2
  obtain ⟨b1, b2, b3, b4⟩ := HBAD.out (by rw [HEK.out]; exact hZ)
  rw [b1, b2, b3, b4, ← HEE.out, HEK.out]
  refine bodyPost_ret (v := .tuple #[.agg #[.int .i64 0, .slice none 0 0, .slice none 0 0], .bool false, .int .i64 Z]) (by simp [results, Tryz.results172, go_sem, r0, r1, r2]) rfl ⟨_, _, rfl, GrsIn.nil _ _, FrsIn.nil _ _, ?_⟩
  first | exact B3.out | exact ((B3.out.setCell (by show _ ≤ w.heap.size + 1 + 1; omega) _).setCell (by show _ ≤ w.heap.size + 1 + 1; omega) _).setCell (by show _ ≤ w.heap.size + 1 + 1; omega) _
 have HAD2 : Hid (∀ (M : Nat) (U : World), w.heap.size ≤ M → Blk U M #[.int .i64 first, .slice ga ln gc, .slice oa lo oc] 221 → Below w.heap.size w U → Calls Tryz.prog 179 #[.pointer (some ⟨M, 0, none⟩), .agg #[.int .i64 f.time, .bool f.key, .slice pa pn pc]] U fun e w' => e = .returned (.bool (decide (0 < C.length))) ∧ ∃ gv' ov', Blk w' M #[.int .i64 (first + trimD (L ++ C)), gv', ov'] 221 ∧ GrsIn (fun g => U.heap.size ≤ g) w' gv' ((L ++ C).drop (trimD (L ++ C))) ∧ FrsIn (fun g => U.heap.size ≤ g) w' ov' (growG O f) ∧ Kept [M] U w') := HADD.out hK hZ
 have HE2 : Hid (E = if 100000 < first + trimD (L ++ C) then 2 else 0) := by show _ = _; rw [HE.out, if_pos hK, if_pos hZ]
 obtain ⟨T, hT⟩ : ∃ T : Int, T = first + trimD (L ++ C) := ⟨_, rfl⟩
 obtain ⟨D, hD⟩ : ∃ D : Bool, D = decide (0 < C.length) := ⟨_, rfl⟩
 rw [← hT] at HAD2 HE2 HGOOD
 rw [← hD] at HAD2 HGOOD
 clear HADD HE HTR hT hD
 subst hK hZ
 obtain ⟨k0, k1, k2⟩ := K3.out.three
 obtain ⟨f0, f1, f2⟩ := F3.out.three
 have hFl : w.heap.size + 1 < w3.heap.size := F3.out.lt
 have hKl : w.heap.size < w3.heap.size := K3.out.lt
 go_wp2_with fail
 obtain ⟨U, hU⟩ : ∃ U, U = w3.alloc (.cells #[.int .i64 first, .slice ga ln gc, .slice oa lo oc] 221) := ⟨_, rfl⟩
 have BU : Hid (Below w.heap.size w U) := by rw [hU]; exact B3.out.alloc B3.out.size _
 have KU : Hid (Blk U w3.heap.size #[.int .i64 first, .slice ga ln gc, .slice oa lo oc] 221) := by rw [hU]; exact Blk.new _ _ _
 have RU : Hid (Blk U (w.heap.size + 1 + 1) #[.int .i64 0, .slice none 0 0, .slice none 0 0] 32) := by rw [hU]; exact R3.out.alloc _
 rw [← hU]
 have hMR : w.heap.size + 1 + 1 < w3.heap.size := R3.out.lt
 clear hU k0 k1 k2 f0 f1 f2 K3 F3 R3 B3
 refine (HAD2.out _ _ (by omega) KU.out BU.out).mono ?_
 rintro e w5 ⟨rfl, gv', ov', k5, v5, o5, p5⟩
 have B5 : Hid (Below w.heap.size w w5) := BU.out.trans (p5.toBelow BU.out.size (fun k hk => by simp at hk; omega))
 have R5 : Hid (Blk w5 (w.heap.size + 1 + 1) #[.int .i64 0, .slice none 0 0, .slice none 0 0] 32) := RU.out.kept p5 (by simp; omega)
 have hRU := RU.out.lt
 obtain ⟨va, vc, ev, _, _⟩ := v5.len
 obtain ⟨qa, qc, eq, _, _⟩ := o5.len
 obtain ⟨nv, hnv⟩ : ∃ n, n = ((L ++ C).drop (trimD (L ++ C))).length := ⟨_, rfl⟩
 obtain ⟨nq, hnq⟩ : ∃ n, n = (growG O f).length := ⟨_, rfl⟩
 rw [← hnv] at ev
 rw [← hnq] at eq
 clear hnv hnq
 subst ev eq
 have V5 : Hid (GrsIn (fun g => U.heap.size ≤ g) w5 (.slice va nv vc) ((L ++ C).drop (trimD (L ++ C)))) := v5
 have O5 : Hid (FrsIn (fun g => U.heap.size ≤ g) w5 (.slice qa nq qc) (growG O f)) := o5
 obtain ⟨k0, k1, k2⟩ := k5.three
 obtain ⟨r0, r1, r2⟩ := R5.out.three
 have fr := R5.out.free
 clear v5 o5 p5 HAD2 RU KU
 by_cases hT : 100000 < T
 ·have HEK : Hid (E = 2) := by show _ = _; rw [HE2.out, if_pos hT]
  go_wp2
  obtain ⟨b1, b2, b3, b4⟩ := HBAD.out (by rw [HEK.out]; decide)
  rw [b1, b2, b3, b4, ← HEE.out, HEK.out]
  refine bodyPost_ret (v := .tuple #[.agg #[.int .i64 0, .slice none 0 0, .slice none 0 0], .bool false, .int .i64 2]) (by simp [results, Tryz.results172, go_sem, r0, r1, r2]) rfl ⟨_, _, rfl, GrsIn.nil _ _, FrsIn.nil _ _, ?_⟩
  first | exact B5.out | exact ((B5.out.setCell (by show _ ≤ w.heap.size + 1 + 1; omega) _).setCell (by show _ ≤ w.heap.size + 1 + 1; omega) _).setCell (by show _ ≤ w.heap.size + 1 + 1; omega) _
 ·have HEK : Hid (E = 0) := by show _ = _; rw [HE2.out, if_neg hT]
  obtain ⟨V, hV⟩ : ∃ V, V = ((w5.setCell ⟨w.heap.size + 1 + 1, 0, none⟩ (.int .i64 T)).setCell ⟨w.heap.size + 1 + 1, 1, none⟩ (.slice va nv vc)).setCell ⟨w.heap.size + 1 + 1, 2, none⟩ (.slice qa nq qc) := ⟨_, rfl⟩
  have KV : Blk V (w.heap.size + 1 + 1) #[.int .i64 T, .slice va nv vc, .slice qa nq qc] 32 := by
   rw [hV]; exact ((R5.out.set 0 (.int .i64 T)).set 1 (.slice va nv vc)).set 2 (.slice qa nq qc)
  have hVo : ∀ g, g ≠ w.heap.size + 1 + 1 → V.heap[g]? = w5.heap[g]? := fun g hg => by
   rw [hV, Below.heap_setCell _ _ _ _ (by exact hg), Below.heap_setCell _ _ _ _ (by exact hg), Below.heap_setCell _ _ _ _ (by exact hg)]
  have hVs : V.heap.size = w5.heap.size := by rw [hV]; simp
  have GV : Hid (GrsIn (fun g => w.heap.size ≤ g) V (.slice va nv vc) ((L ++ C).drop (trimD (L ++ C)))) := V5.out.to ⟨by omega, fun g _ hg => hVo g (by omega)⟩ (fun _ _ _ => by omega)
  have OV : Hid (FrsIn (fun g => w.heap.size ≤ g) V (.slice qa nq qc) (growG O f)) := O5.out.to ⟨by omega, fun g _ hg => hVo g (by omega)⟩ (fun _ _ _ => by omega)
  have BV : Hid (Below w.heap.size w V) := by
   rw [hV]; exact ((B5.out.setCell (by show _ ≤ w.heap.size + 1 + 1; omega) _).setCell (by show _ ≤ w.heap.size + 1 + 1; omega) _).setCell (by show _ ≤ w.heap.size + 1 + 1; omega) _
  obtain ⟨c0, c1, c2⟩ := KV.three
  clear hVo hVs V5 O5 KV
  go_wp2_with fail
  rw [← hV]
  obtain ⟨b1, b2, b3, b4⟩ := HGOOD.out HEK.out
  rw [b1, b2, b3, b4, ← HEE.out, HEK.out]
  exact bodyPost_ret (v := .tuple #[.agg #[.int .i64 T, .slice va nv vc, .slice qa nq qc], .bool D, .int .i64 0]) (by simp [results, Tryz.results172, go_sem, c0, c1, c2]) rfl ⟨_, _, rfl, GV.out, OV.out, BV.out⟩
def getE (first : Int) (L : List (List Fr)) (O : List Fr) (n : Int) : Int := if stchk first L O = 0 then (if n < first then 5 else if ((allG L O).length : Int) ≤ n - first then 5 else 0) else stchk first L O
def getG (first : Int) (L : List (List Fr)) (O : List Fr) (n : Int) : List Fr := if getE first L O n = 0 then grAt (allG L O) (n - first).toNat else []
theorem allG_len (L : List (List Fr)) (O : List Fr) (h : L.length ≤ 5) : (allG L O).length ≤ 6 := by
 unfold allG; split
 ·simp; omega
 ·omega
theorem allG_right {first : Int} {L : List (List Fr)} {O : List Fr} (h : stchk first L O = 0) : ∀ g ∈ allG L O, gchk g = 0 := by
 obtain ⟨_, _, _, h1, _, h2⟩ := stchk_zero.1 h
 intro g hg
 unfold allG at hg
 split at hg
 ·rcases List.mem_append.1 hg with hg | hg
  ·exact h1 g hg
  ·simp at hg; subst hg
   rcases h2 with h2 | h2
   ·rename_i h0; rw [h2] at h0; simp at h0
   ·exact h2
 ·exact h1 g hg
set_option maxHeartbeats 4000000 in
set_option maxRecDepth 100000 in
theorem storeGet_new (first : Int) (gv ov : Value) (L : List (List Fr)) (O : List Fr) (n : Int) (w : World) (hg : GrsIn (fun _ => True) w gv L) (ho : FrsIn (fun _ => True) w ov O) (hnb : n ≤ 9223372036854775807) :
  Calls Tryz.prog 166 #[.agg #[.int .i64 first, gv, ov], .int .i64 n] w fun e w' => ∃ a c, e = .returned (.tuple #[.agg #[.slice a (getG first L O n).length c], .int .i64 (getE first L O n)]) ∧ FrsIn (fun g => w.heap.size ≤ g) w' (.slice a (getG first L O n).length c) (getG first L O n) ∧ Below w.heap.size w w' := by
 obtain ⟨ga, gc, eg, _, _⟩ := hg.len
 obtain ⟨oa, oc, eo, _, _⟩ := ho.len
 obtain ⟨ln, hln⟩ : ∃ n, n = L.length := ⟨_, rfl⟩
 obtain ⟨lo, hlo⟩ : ∃ n, n = O.length := ⟨_, rfl⟩
 rw [← hln] at eg
 rw [← hlo] at eo
 have HG : Hid (GrsIn (fun _ => True) w gv L) := hg
 have HO : Hid (FrsIn (fun _ => True) w ov O) := ho
 obtain ⟨E, hE⟩ : ∃ E, E = getE first L O n := ⟨_, rfl⟩
 obtain ⟨G, hG⟩ : ∃ G, G = getG first L O n := ⟨_, rfl⟩
 obtain ⟨K, hK⟩ : ∃ K, K = stchk first L O := ⟨_, rfl⟩
 have HE : Hid (E = if K = 0 then (if n < first then 5 else if ((allG L O).length : Int) ≤ n - first then 5 else 0) else K) := by show _ = _; rw [hE, hK]; rfl
 have HGG : Hid (G = if E = 0 then grAt (allG L O) (n - first).toNat else []) := by show _ = _; rw [hG, hE]; rfl
 have HC : Hid (∀ U, Below w.heap.size w U → Calls Tryz.prog 103 #[.agg #[.int .i64 first, gv, ov]] U fun e w' => e = .returned (.int .i64 K) ∧ Below U.heap.size U w') := fun U hU => by
  rw [hK]; exact storeCheck_any _ first gv ov L O U (HG.out.below hU) (HO.out.below hU)
 have HK0 : Hid (K = 0 → 0 ≤ first ∧ first ≤ 100000 ∧ L.length ≤ 5 ∧ (∀ g ∈ allG L O, gchk g = 0)) := fun h => by
  have h' : stchk first L O = 0 := by rw [← hK]; exact h
  obtain ⟨h1, h2, h3, _⟩ := stchk_zero.1 h'
  exact ⟨h1, h2, h3, allG_right h'⟩
 rw [← hE, ← hG]
 clear hg ho hE hG hK hln hlo
 subst eg eo
 go_enter Tryz.func166, Tryz.ntmps166
 go_wp2_with fail
 have B1 : Hid (Below w.heap.size w ((w.alloc (.cells #[.int .i64 first, .slice ga ln gc, .slice oa lo oc] 32)).alloc (.cells #[.slice none 0 0] 30))) := ((Below.refl _ _).alloc (Nat.le_refl _) _).alloc (by simp) _
 have K1 : Hid (Blk ((w.alloc (.cells #[.int .i64 first, .slice ga ln gc, .slice oa lo oc] 32)).alloc (.cells #[.slice none 0 0] 30)) w.heap.size #[.int .i64 first, .slice ga ln gc, .slice oa lo oc] 32) := (Blk.new w _ _).alloc _
 have R1 : Hid (Blk ((w.alloc (.cells #[.int .i64 first, .slice ga ln gc, .slice oa lo oc] 32)).alloc (.cells #[.slice none 0 0] 30)) (w.heap.size + 1) #[.slice none 0 0] 30) := by
  have := Blk.new (w.alloc (.cells #[.int .i64 first, .slice ga ln gc, .slice oa lo oc] 32)) #[.slice none 0 0] 30
  simpa [Hid] using this
 refine (HC.out _ B1.out).mono ?_
 rintro e w2 ⟨rfl, hb2⟩
 have B2 : Hid (Below w.heap.size w w2) := B1.out.trans (hb2.mono B1.out.size)
 have K2 : Hid (Blk w2 w.heap.size #[.int .i64 first, .slice ga ln gc, .slice oa lo oc] 32) := K1.out.below hb2 K1.out.lt
 have R2 : Hid (Blk w2 (w.heap.size + 1) #[.slice none 0 0] 30) := R1.out.below hb2 R1.out.lt
 clear hb2 B1 K1 R1 HC
 obtain ⟨k0, k1, k2⟩ := K2.out.three
 have r0 := R2.out.one
 have r1 := R2.out.free 0
 by_cases hK : K = 0
 case neg =>
  have HEE : Hid (E = K ∧ G = []) := by
   have e1 : E = K := by rw [HE.out, if_neg hK]
   exact ⟨e1, by rw [HGG.out, if_neg (by rw [e1]; exact hK)]⟩
  go_wp2
  obtain ⟨e1, e2⟩ := HEE.out
  rw [e1, e2]
  exact bodyPost_ret (v := .tuple #[.agg #[.slice none 0 0], .int .i64 K]) (by simp [results, Tryz.results166, go_sem, r0]) rfl ⟨none, 0, rfl, FrsIn.nil _ _, by first | exact B2.out | exact B2.out.setCell (by simp) _⟩
 obtain ⟨hf0, hf1, hL5, hAR⟩ := HK0.out hK
 have HAR : Hid (∀ g ∈ allG L O, gchk g = 0) := hAR
 have HE2 : Hid (E = if n < first then 5 else if ((allG L O).length : Int) ≤ n - first then 5 else 0) := by show _ = _; rw [HE.out, if_pos hK]
 have HAL : Hid ((allG L O).length ≤ 6) := allG_len L O hL5
 have HL5 : Hid (L.length ≤ 100) := by show _ ≤ _; omega
 clear hAR HE HK0 hL5
 subst hK
 obtain ⟨A, hA⟩ : ∃ A, A = allG L O := ⟨_, rfl⟩
 rw [← hA] at HAR HE2 HAL HGG
 obtain ⟨q, hq⟩ : ∃ q, q = A.length := ⟨_, rfl⟩
 have HQ : Hid (q = A.length) := hq
 have hq6 : q ≤ 6 := by rw [hq]; exact HAL.out
 rw [← hq] at HE2
 have HALL : Hid (∀ (M : Nat) (U : World), Blk U M #[.int .i64 first, .slice ga ln gc, .slice oa lo oc] 221 → Below w.heap.size w U → Calls Tryz.prog 165 #[.pointer (some ⟨M, 0, none⟩)] U fun e w' => ∃ a c, e = .returned (.slice a q c) ∧ Hid (GrsIn (fun _ => True) w' (.slice a q c) A) ∧ Below U.heap.size U w') := fun M U h1 h2 => by
  refine (keeperAll_any M first _ _ L O U h1 (HG.out.below h2) (HO.out.below h2) HL5.out).mono ?_
  rintro e w' ⟨u, rfl, h3, h4⟩
  rw [← hA] at h3
  obtain ⟨a, c, e, _, _⟩ := h3.len
  rw [← hq] at e
  subst e
  exact ⟨a, c, rfl, h3, h4⟩
 clear hA hq
 go_wp2_with fail
 have B3 : Hid (Below w.heap.size w (w2.alloc (.cells #[.int .i64 first, .slice ga ln gc, .slice oa lo oc] 221))) := B2.out.alloc B2.out.size _
 have M3 : Hid (Blk (w2.alloc (.cells #[.int .i64 first, .slice ga ln gc, .slice oa lo oc] 221)) w2.heap.size #[.int .i64 first, .slice ga ln gc, .slice oa lo oc] 221) := Blk.new _ _ _
 refine (HALL.out _ _ M3.out B3.out).mono ?_
 rintro e w4 ⟨ua, uc, rfl, GU, hb4⟩
 have B4 : Hid (Below w.heap.size w w4) := B3.out.trans (hb4.mono B3.out.size)
 have M4 : Hid (Blk w4 w2.heap.size #[.int .i64 first, .slice ga ln gc, .slice oa lo oc] 221) := M3.out.below hb4 M3.out.lt
 have R4 : Hid (Blk w4 (w.heap.size + 1) #[.slice none 0 0] 30) := (R2.out.alloc _).below hb4 (by have := R2.out.lt; simp; omega)
 clear hb4 B3 M3 B2 K2 R2 k0 k1 k2 r0 r1 HALL
 obtain ⟨k0, k1, k2⟩ := M4.out.three
 have r0 := R4.out.one
 have r1 := R4.out.free 0
 by_cases hn1 : n < first
 ·have HEE : Hid (E = 5 ∧ G = []) := by
   have e1 : E = 5 := by rw [HE2.out, if_pos hn1]
   exact ⟨e1, by rw [HGG.out, if_neg (by rw [e1]; decide)]⟩
  go_wp2
  obtain ⟨e1, e2⟩ := HEE.out
  rw [e1, e2]
  exact bodyPost_ret (v := .tuple #[.agg #[.slice none 0 0], .int .i64 5]) (by simp [results, Tryz.results166, go_sem, r0]) rfl ⟨none, 0, rfl, FrsIn.nil _ _, by first | exact B4.out | exact B4.out.setCell (by simp) _⟩
 by_cases hn2 : (q : Int) ≤ n - first
 ·have HEE : Hid (E = 5 ∧ G = []) := by
   have e1 : E = 5 := by rw [HE2.out, if_neg hn1, if_pos hn2]
   exact ⟨e1, by rw [HGG.out, if_neg (by rw [e1]; decide)]⟩
  go_wp2
  obtain ⟨e1, e2⟩ := HEE.out
  rw [e1, e2]
  exact bodyPost_ret (v := .tuple #[.agg #[.slice none 0 0], .int .i64 5]) (by simp [results, Tryz.results166, go_sem, r0]) rfl ⟨none, 0, rfl, FrsIn.nil _ _, by first | exact B4.out | exact B4.out.setCell (by simp) _⟩
 obtain ⟨d, hd⟩ : ∃ d : Nat, (d : Int) = n - first := ⟨(n - first).toNat, by omega⟩
 have hdq : d < q := by omega
 have hnd : n = first + d := by omega
 have HEE : Hid (E = 0 ∧ G = grAt A d) := by
  have e1 : E = 0 := by rw [HE2.out, if_neg hn1, if_neg hn2]
  exact ⟨e1, by rw [HGG.out, if_pos e1, ← hd]; rfl⟩
 obtain ⟨ao, c', eu, _, _, hc⟩ := GU.out
 rw [← HQ.out] at eu
 injection eu with eu eu2 eu3
 clear eu2
 subst eu eu3
 obtain ⟨b, off, e1, hb, _, sv, c0, hsv⟩ := hc d (by rw [← HQ.out]; exact hdq)
 have hGd : grAt A d = G := HEE.out.2.symm
 rw [show A[d]?.getD [] = G from hGd] at hsv
 obtain ⟨sa, sc, es, _, _⟩ := hsv.len
 obtain ⟨gn, hgn⟩ : ∃ gn, gn = G.length := ⟨_, rfl⟩
 rw [← hgn] at es
 have HGN : Hid (gn = G.length) := hgn
 have hGR : gchk G = 0 := HAR.out G (by rw [← hGd]; unfold grAt; rw [List.getElem?_eq_getElem (by rw [← HQ.out]; exact hdq)]; exact List.getElem_mem _)
 have HCL : Hid (Calls Tryz.prog 70 #[.agg #[sv]] w4 fun e w' => ∃ a c, e = .returned (.agg #[.slice a gn c]) ∧ Hid (FrsIn (fun g => w4.heap.size ≤ g) w' (.slice a gn c) G) ∧ Below w4.heap.size w4 w') := by
  show Calls _ _ _ _ _
  rw [hgn]; exact cloneGroup_any _ sv G w4 hsv hGR
 have HE0 : Hid (E = 0) := HEE.out.1
 have hdw : IntKind.i64.wrap (d : Int) = (d : Int) := by rw [IntKind.wrap_i64]; omega
 have hdqi : (d : Int) < (q : Int) := by omega
 have hnf : first + (d : Int) - first = (d : Int) := by omega
 have hnl : ¬ first + (d : Int) < first := by omega
 have hqd : ¬ (q : Int) ≤ (d : Int) := by omega
 clear hc hsv hGd hGR hn1 hn2 hd HE2 HGG HEE hgn
 subst hnd es e1
 go_wp2_with fail
 refine HCL.out.mono ?_
 rintro e w5 ⟨a5, c5, rfl, HF5, hb5⟩
 have B5 : Hid (Below w.heap.size w w5) := B4.out.trans (hb5.mono B4.out.size)
 have K5 := R4.out.below hb5 R4.out.lt
 have q0 := K5.one
 have q1 := K5.free 0
 have c9 : (w5.setCell ⟨w.heap.size + 1, 0, none⟩ (.slice a5 gn c5)).cell? ⟨w.heap.size + 1, 0, none⟩ = some (.slice a5 gn c5) := (K5.set 0 _).cell rfl
 have hlt4 := R4.out.lt
 have F9 : Hid (FrsIn (fun g => w.heap.size ≤ g) (w5.setCell ⟨w.heap.size + 1, 0, none⟩ (.slice a5 gn c5)) (.slice a5 gn c5) G) := HF5.out.to (SameOn.setCell (fun g hg => by simp at hg ⊢; omega) _) (fun g _ h => by omega)
 clear hb5 K5 HF5 HCL c0 k0 k1 k2 r0 r1
 go_wp2
 rw [HE0.out, ← HGN.out]
 exact bodyPost_ret (v := .tuple #[.agg #[.slice a5 gn c5], .int .i64 0]) (by simp [results, Tryz.results166, go_sem, c9]) rfl ⟨a5, c5, rfl, F9.out, B5.out.setCell (by simp) _⟩
def seekI (A : List (List Fr)) (t : Int) : Nat → Nat
 | 0 => 0
 | i + 1 => if (frAt (grAt A (i + 1)) 0).time ≤ t then i + 1 else seekI A t i
theorem seekI_le (A : List (List Fr)) (t : Int) : ∀ i, seekI A t i ≤ i
 | 0 => Nat.le_refl _
 | i + 1 => by
  unfold seekI; split
  ·exact Nat.le_refl _
  ·exact Nat.le_succ_of_le (seekI_le A t i)
theorem seekI_hit {A : List (List Fr)} {t : Int} {i i1 : Nat} (h : i = i1 + 1) (hl : (frAt (grAt A i) 0).time ≤ t) : seekI A t i = i := by
 subst h; simp only [seekI]; rw [if_pos hl]
theorem seekI_miss {A : List (List Fr)} {t : Int} {i i1 : Nat} (h : i = i1 + 1) (hl : ¬ (frAt (grAt A i) 0).time ≤ t) : seekI A t i = seekI A t i1 := by
 subst h; simp only [seekI]; rw [if_neg hl]
def seekE (first : Int) (L : List (List Fr)) (O : List Fr) (t : Int) : Int := if stchk first L O = 0 then (if t < 0 then 3 else if 1000000 < t then 3 else if (allG L O).length = 0 then 5 else 0) else stchk first L O
def seekN (first : Int) (L : List (List Fr)) (O : List Fr) (t : Int) : Int := if seekE first L O t = 0 then first + seekI (allG L O) t ((allG L O).length - 1) else 0
set_option maxHeartbeats 4000000 in
set_option maxRecDepth 100000 in
theorem storeSeek_any (first : Int) (gv ov : Value) (L : List (List Fr)) (O : List Fr) (t : Int) (w : World) (hg : GrsIn (fun _ => True) w gv L) (ho : FrsIn (fun _ => True) w ov O) :
  Calls Tryz.prog 146 #[.agg #[.int .i64 first, gv, ov], .int .i64 t] w fun e w' => e = .returned (.tuple #[.int .i64 (seekN first L O t), .int .i64 (seekE first L O t)]) ∧ Below w.heap.size w w' := by
 obtain ⟨ga, gc, eg, _, _⟩ := hg.len
 obtain ⟨oa, oc, eo, _, _⟩ := ho.len
 obtain ⟨ln, hln⟩ : ∃ n, n = L.length := ⟨_, rfl⟩
 obtain ⟨lo, hlo⟩ : ∃ n, n = O.length := ⟨_, rfl⟩
 rw [← hln] at eg
 rw [← hlo] at eo
 have HG : Hid (GrsIn (fun _ => True) w gv L) := hg
 have HO : Hid (FrsIn (fun _ => True) w ov O) := ho
 obtain ⟨E, hE⟩ : ∃ E, E = seekE first L O t := ⟨_, rfl⟩
 obtain ⟨N, hN⟩ : ∃ N, N = seekN first L O t := ⟨_, rfl⟩
 obtain ⟨K, hK⟩ : ∃ K, K = stchk first L O := ⟨_, rfl⟩
 have HE : Hid (E = if K = 0 then (if t < 0 then 3 else if 1000000 < t then 3 else if (allG L O).length = 0 then 5 else 0) else K) := by show _ = _; rw [hE, hK]; rfl
 have HNN : Hid (N = if E = 0 then first + seekI (allG L O) t ((allG L O).length - 1) else 0) := by show _ = _; rw [hN, hE]; rfl
 have HC : Hid (∀ U, Below w.heap.size w U → Calls Tryz.prog 103 #[.agg #[.int .i64 first, gv, ov]] U fun e w' => e = .returned (.int .i64 K) ∧ Below U.heap.size U w') := fun U hU => by
  rw [hK]; exact storeCheck_any _ first gv ov L O U (HG.out.below hU) (HO.out.below hU)
 have HK0 : Hid (K = 0 → 0 ≤ first ∧ first ≤ 100000 ∧ L.length ≤ 5 ∧ (∀ g ∈ allG L O, gchk g = 0)) := fun h => by
  have h' : stchk first L O = 0 := by rw [← hK]; exact h
  obtain ⟨h1, h2, h3, _⟩ := stchk_zero.1 h'
  exact ⟨h1, h2, h3, allG_right h'⟩
 have HBAD : Hid (∀ e : Int, E = e → ¬ e = 0 → N = 0) := fun e h1 h2 => by rw [HNN.out, if_neg (by rw [h1]; exact h2)]
 rw [← hE, ← hN]
 clear hg ho hE hN hK hln hlo
 subst eg eo
 go_enter Tryz.func146, Tryz.ntmps146
 go_wp2_with fail
 have B1 : Hid (Below w.heap.size w (w.alloc (.cells #[.int .i64 first, .slice ga ln gc, .slice oa lo oc] 32))) := (Below.refl _ _).alloc (Nat.le_refl _) _
 have K1 : Hid (Blk (w.alloc (.cells #[.int .i64 first, .slice ga ln gc, .slice oa lo oc] 32)) w.heap.size #[.int .i64 first, .slice ga ln gc, .slice oa lo oc] 32) := Blk.new w _ _
 refine (HC.out _ B1.out).mono ?_
 rintro e w2 ⟨rfl, hb2⟩
 have B2 : Hid (Below w.heap.size w w2) := B1.out.trans (hb2.mono B1.out.size)
 have K2 : Hid (Blk w2 w.heap.size #[.int .i64 first, .slice ga ln gc, .slice oa lo oc] 32) := K1.out.below hb2 K1.out.lt
 clear hb2 B1 K1 HC
 obtain ⟨k0, k1, k2⟩ := K2.out.three
 by_cases hK : K = 0
 case neg =>
  have e1 : E = K := by rw [HE.out, if_neg hK]
  have HEE : Hid (E = K ∧ N = 0) := ⟨e1, HBAD.out K e1 hK⟩
  clear e1
  go_wp2
  obtain ⟨e1, e2⟩ := HEE.out
  rw [e1, e2]
  go_ret2
  exact ⟨rfl, B2.out⟩
 obtain ⟨hf0, hf1, hL5, hAR⟩ := HK0.out hK
 have HAR : Hid (∀ g ∈ allG L O, gchk g = 0) := hAR
 have HE2 : Hid (E = if t < 0 then 3 else if 1000000 < t then 3 else if (allG L O).length = 0 then 5 else 0) := by show _ = _; rw [HE.out, if_pos hK]
 have HAL : Hid ((allG L O).length ≤ 6) := allG_len L O hL5
 have HL5 : Hid (L.length ≤ 100) := by show _ ≤ _; omega
 clear hAR HE HK0 hL5
 subst hK
 by_cases ht1 : t < 0
 ·have e1 : E = 3 := by rw [HE2.out, if_pos ht1]
  have HEE : Hid (E = 3 ∧ N = 0) := ⟨e1, HBAD.out 3 e1 (by decide)⟩
  clear e1
  go_wp2
  obtain ⟨e1, e2⟩ := HEE.out
  rw [e1, e2]
  go_ret2
  exact ⟨rfl, B2.out⟩
 by_cases ht2 : 1000000 < t
 ·have e1 : E = 3 := by rw [HE2.out, if_neg ht1, if_pos ht2]
  have HEE : Hid (E = 3 ∧ N = 0) := ⟨e1, HBAD.out 3 e1 (by decide)⟩
  clear e1
  go_wp2
  obtain ⟨e1, e2⟩ := HEE.out
  rw [e1, e2]
  go_ret2
  exact ⟨rfl, B2.out⟩
 obtain ⟨A, hA⟩ : ∃ A, A = allG L O := ⟨_, rfl⟩
 rw [← hA] at HAR HE2 HAL HNN
 obtain ⟨q, hq⟩ : ∃ q, q = A.length := ⟨_, rfl⟩
 have HQ : Hid (q = A.length) := hq
 have hq6 : q ≤ 6 := by rw [hq]; exact HAL.out
 rw [← hq] at HE2 HNN
 have HALL : Hid (∀ (M : Nat) (U : World), Blk U M #[.int .i64 first, .slice ga ln gc, .slice oa lo oc] 221 → Below w.heap.size w U → Calls Tryz.prog 165 #[.pointer (some ⟨M, 0, none⟩)] U fun e w' => ∃ a c, e = .returned (.slice a q c) ∧ Hid (GrsIn (fun _ => True) w' (.slice a q c) A) ∧ Below U.heap.size U w') := fun M U h1 h2 => by
  refine (keeperAll_any M first _ _ L O U h1 (HG.out.below h2) (HO.out.below h2) HL5.out).mono ?_
  rintro e w' ⟨u, rfl, h3, h4⟩
  rw [← hA] at h3
  obtain ⟨a, c, e, _, _⟩ := h3.len
  rw [← hq] at e
  subst e
  exact ⟨a, c, rfl, h3, h4⟩
 clear hA hq
 go_wp2_with fail
 have B3 : Hid (Below w.heap.size w (w2.alloc (.cells #[.int .i64 first, .slice ga ln gc, .slice oa lo oc] 221))) := B2.out.alloc B2.out.size _
 have M3 : Hid (Blk (w2.alloc (.cells #[.int .i64 first, .slice ga ln gc, .slice oa lo oc] 221)) w2.heap.size #[.int .i64 first, .slice ga ln gc, .slice oa lo oc] 221) := Blk.new _ _ _
 refine (HALL.out _ _ M3.out B3.out).mono ?_
 rintro e w4 ⟨ua, uc, rfl, GU, hb4⟩
 have B4 : Hid (Below w.heap.size w w4) := B3.out.trans (hb4.mono B3.out.size)
 have M4 : Hid (Blk w4 w2.heap.size #[.int .i64 first, .slice ga ln gc, .slice oa lo oc] 221) := M3.out.below hb4 M3.out.lt
 clear hb4 B3 M3 B2 K2 k0 k1 k2 HALL
 obtain ⟨k0, k1, k2⟩ := M4.out.three
 by_cases hq0 : q = 0
 ·have e1 : E = 5 := by rw [HE2.out, if_neg (by omega), if_neg (by omega), if_pos hq0]
  have HEE : Hid (E = 5 ∧ N = 0) := ⟨e1, HBAD.out 5 e1 (by decide)⟩
  clear e1
  subst hq0
  go_wp2
  obtain ⟨e1, e2⟩ := HEE.out
  rw [e1, e2]
  go_ret2
  exact ⟨rfl, B4.out⟩
 have e1 : E = 0 := by rw [HE2.out, if_neg (by omega), if_neg (by omega), if_neg hq0]
 have HEE : Hid (E = 0 ∧ N = first + seekI A t (q - 1)) := ⟨e1, by rw [HNN.out, if_pos e1]⟩
 obtain ⟨ao, c', eu, _, _, hc⟩ := GU.out
 rw [← HQ.out] at eu
 injection eu with eu eu2 eu3
 clear eu2
 subst eu eu3
 have HTM : Hid (∀ i, i < q → ∃ b off sa sn sc b2 off2, ua = some ⟨b, off, none⟩ ∧ b < w4.heap.size ∧ w4.cell? ⟨b, off + i, none⟩ = some (.slice (some ⟨b2, off2, none⟩) sn sc) ∧ 0 < sn ∧ sa = (frAt (grAt A i) 0).time ∧ w4.cell? ⟨b2, off2, none⟩ = some (.int .i64 sa)) := fun i hi => by
  obtain ⟨b, off, e1, hb, _, sv, c0, hsv⟩ := hc i (by rw [← HQ.out]; exact hi)
  have hgr : gchk (grAt A i) = 0 := HAR.out _ (by unfold grAt; rw [List.getElem?_eq_getElem (by rw [← HQ.out]; exact hi)]; exact List.getElem_mem _)
  obtain ⟨h0, _⟩ := gchk_zero.1 hgr
  obtain ⟨sa, sc, es, _, _, hf⟩ := hsv
  obtain ⟨b2, off2, e2, _, _, pv, d0, _⟩ := hf 0 h0
  subst e2
  exact ⟨b, off, _, _, sc, b2, off2, e1, hb, by rw [c0, es], h0, rfl, by simpa using d0⟩
 have hqi : ((q : Int) == 0) = false := by simp; omega
 obtain ⟨q1, hq1⟩ : ∃ q1, q1 = q - 1 := ⟨_, rfl⟩
 have hq1i : (q : Int) - 1 = (q1 : Int) := by omega
 rw [← hq1] at HEE
 have hq1l : q1 < q := by omega
 clear e1 hc HAR HE2 HNN HBAD hq1
 go_wp2_with fail
 go_loopw [9] (fun s wr => ∃ i : Nat, i ≤ q1 ∧ s = .int .i64 i ∧ Hid (seekI A t q1 = seekI A t i) ∧ wr = w4)
  (fun s _ => (intOf s).toNat)
 case atStart => exact ⟨q1, Nat.le_refl _, by go_num, (show _ = _ from rfl), rfl⟩
 case round =>
  obtain ⟨i, hi, rfl, HI, rfl⟩ := hrel
  by_cases hi0 : i = 0
  ·subst hi0
   go_wp2
   obtain ⟨e1, e2⟩ := HEE.out
   rw [e1, e2, HI.out]
   go_ret2
   exact ⟨by simp [seekI], B4.out⟩
  ·obtain ⟨b, off, sa, sn, sc, b2, off2, eu, hb, c0, hsn, hsa, d0⟩ := HTM.out i (by omega)
   have hi0i : (0 : Int) < (i : Int) := by omega
   have hiq : (i : Int) < (q : Int) := by omega
   have hsni : (0 : Int) < (sn : Int) := by omega
   have HSA : Hid (sa = (frAt (grAt A i) 0).time) := hsa
   obtain ⟨i1, hi1⟩ : ∃ i1, i = i1 + 1 := ⟨i - 1, by omega⟩
   have HI1 : Hid (i = i1 + 1) := hi1
   have hi1i : (i : Int) - 1 = (i1 : Int) := by omega
   clear hsa hi1
   subst eu
   by_cases hle : sa ≤ t
   ·have HS : Hid (seekI A t i = i) := seekI_hit HI1.out (by rw [← HSA.out]; exact hle)
    go_wp2
    obtain ⟨e1, e2⟩ := HEE.out
    rw [e1, e2, HI.out, HS.out]
    go_ret2
    exact ⟨rfl, B4.out⟩
   ·have HS : Hid (seekI A t q1 = seekI A t i1) := HI.out.trans (seekI_miss HI1.out (by rw [← HSA.out]; exact hle))
    go_wp2_with fail
    go_roundw
    case rel => exact ⟨i1, by have := HI1.out; omega, by go_num, HS, by first | rfl | trivial⟩
    case measure => simp [intOf]; omega
end Go.Proofs.YtnpaejknoipicagGreat
namespace Go.Proofs.YtnpaejknoipicagGreat
theorem trimD_done : ∀ L : List (List Fr), fullB (L.drop (trimD L)) = false
 | [] => fullB_nil
 | g :: r => by
  unfold trimD
  split
  ·rw [List.drop_succ_cons]; exact trimD_done r
  ·rename_i h; simpa using h
theorem closedG_cases (O : List Fr) (f : Fr) : (closedG O f = [] ∧ ¬ (f.key = true ∧ 0 < O.length)) ∨ (closedG O f = [O] ∧ f.key = true ∧ 0 < O.length) := by
 unfold closedG
 by_cases h : (f.key && decide (0 < O.length)) = true
 ·rw [if_pos h]
  simp only [Bool.and_eq_true, decide_eq_true_eq] at h
  exact .inr ⟨rfl, h⟩
 ·rw [if_neg h]
  simp only [Bool.and_eq_true, decide_eq_true_eq] at h
  exact .inl ⟨rfl, h⟩
theorem addsE_zero {first : Int} {L : List (List Fr)} {O : List Fr} {f : Fr} (h : addsE first L O f = 0) : stchk first L O = 0 ∧ f.chk = 0 ∧ first + trimD (L ++ closedG O f) ≤ 100000 ∧ addsF first L O f = first + trimD (L ++ closedG O f) ∧ addsL first L O f = (L ++ closedG O f).drop (trimD (L ++ closedG O f)) ∧ addsO first L O f = growG O f ∧ addsB first L O f = decide (0 < (closedG O f).length) := by
 have h0 := h
 unfold addsE at h0
 by_cases h1 : stchk first L O = 0
 ·rw [if_pos h1] at h0
  by_cases h2 : f.chk = 0
  ·rw [if_pos h2] at h0
   by_cases h3 : 100000 < first + trimD (L ++ closedG O f)
   ·rw [if_pos h3] at h0; cases h0
   ·exact ⟨h1, h2, by omega, if_pos h, if_pos h, if_pos h, if_pos h⟩
  ·rw [if_neg h2] at h0; exact absurd h0 h2
 ·rw [if_neg h1] at h0; exact absurd h0 h1
theorem growG_right {O : List Fr} {f : Fr} (hO : O = [] ∨ gchk O = 0) (hf : f.chk = 0) : growG O f = [] ∨ gchk (growG O f) = 0 := by
 have := stepG_right (s := ([], O)) (f := f) ⟨fun g hg => absurd hg List.not_mem_nil, hO⟩ hf
 exact this.2
theorem adds_right {first : Int} {L : List (List Fr)} {O : List Fr} {f : Fr} (h : addsE first L O f = 0) : stchk (addsF first L O f) (addsL first L O f) (addsO first L O f) = 0 := by
 obtain ⟨h1, h2, h3, e1, e2, e3, _⟩ := addsE_zero h
 obtain ⟨a1, a2, a3, a4, a5, a6⟩ := stchk_zero.1 h1
 rw [e1, e2, e3]
 have hd := trimD_done (L ++ closedG O f)
 simp only [fullB, Bool.or_eq_false_iff, decide_eq_false_iff_not] at hd
 refine stchk_zero.2 ⟨by omega, h3, by omega, fun g hg => ?_, hd.2, growG_right a6 h2⟩
 have hm := List.mem_of_mem_drop hg
 rcases List.mem_append.1 hm with hm | hm
 ·exact a4 g hm
 ·rcases closedG_cases O f with ⟨e, _⟩ | ⟨e, _, h0⟩
  ·rw [e] at hm; exact absurd hm List.not_mem_nil
  ·rw [e] at hm
   simp at hm
   subst hm
   rcases a6 with a6 | a6
   ·rw [a6] at h0; simp at h0
   ·exact a6
theorem getE_in {first : Int} {L : List (List Fr)} {O : List Fr} (h : stchk first L O = 0) {n : Int} {d : Nat} (hn : n = first + d) (hd : d < (allG L O).length) : getE first L O n = 0 ∧ getG first L O n = grAt (allG L O) d := by
 have e : getE first L O n = 0 := by
  unfold getE; rw [if_pos h, if_neg (by omega), if_neg (by omega)]
 refine ⟨e, ?_⟩
 unfold getG; rw [if_pos e]
 congr 1; omega
theorem getE_out {first : Int} {L : List (List Fr)} {O : List Fr} (h : stchk first L O = 0) {n : Int} (hn : n < first ∨ first + (allG L O).length ≤ n) : getE first L O n = 5 ∧ getG first L O n = [] := by
 have e : getE first L O n = 5 := by
  unfold getE; rw [if_pos h]
  by_cases h1 : n < first
  ·rw [if_pos h1]
  ·rw [if_neg h1, if_pos (by omega)]
 exact ⟨e, by unfold getG; rw [if_neg (by rw [e]; decide)]⟩
theorem seekE_zero {first : Int} {L : List (List Fr)} {O : List Fr} {t : Int} (h : seekE first L O t = 0) : stchk first L O = 0 ∧ 0 ≤ t ∧ t ≤ 1000000 ∧ 0 < (allG L O).length ∧ seekN first L O t = first + seekI (allG L O) t ((allG L O).length - 1) := by
 have h0 := h
 unfold seekE at h0
 by_cases h1 : stchk first L O = 0
 ·rw [if_pos h1] at h0
  by_cases h2 : t < 0
  ·rw [if_pos h2] at h0; cases h0
  rw [if_neg h2] at h0
  by_cases h3 : 1000000 < t
  ·rw [if_pos h3] at h0; cases h0
  rw [if_neg h3] at h0
  by_cases h4 : (allG L O).length = 0
  ·rw [if_pos h4] at h0; cases h0
  exact ⟨h1, by omega, by omega, by omega, if_pos h⟩
 ·rw [if_neg h1] at h0; exact absurd h0 h1
end Go.Proofs.YtnpaejknoipicagGreat
namespace Go.Proofs.YtnpaejknoipicagGreat
open Go.RowKit
theorem num_one (l : List UInt8) : num (l.take 1) = (l[0]?.getD 0).toNat := by
 cases l with
 | nil => rfl
 | cons x r => simp [num]
set_option maxHeartbeats 2000000 in
theorem closure_ok (R H P c : Nat) (l : List UInt8) (hv s0 t0 f0 e0 k0 x0 : Value) (w : World)
  (bR : Blk w R #[.string (ba l)] 217) (bH : Blk w H #[hv] 3) (bP : Blk w P #[s0, t0, f0, e0, k0, x0] 63)
  (hRH : R ≠ H) (hRP : R ≠ P) (hHP : H ≠ P) (h8 : 8 ≤ l.length) (hc : num ((l.drop 7).take 1) = (c : Int)) (hcl : 8 + c ≤ l.length) (hc255 : c ≤ 255) :
  Calls Tryz.prog 137 #[.pointer (some ⟨R, 0, none⟩), .pointer (some ⟨H, 0, none⟩), .pointer (some ⟨P, 0, none⟩)] w fun e w' =>
   e = .returned (.tuple #[]) ∧ Blk w' R #[.string (ba (l.drop (8 + c)))] 217 ∧ Blk w' H #[.int .i64 (num (l.take 1))] 3 ∧
   Blk w' P #[.int .i64 (num ((l.drop 1).take 2)), .int .i64 (num ((l.drop 3).take 4)), f0, e0, k0, .string (ba ((l.drop 8).take c))] 63 ∧ Kept [R, H, P] w w' := by
 have HC : Hid (num ((l.drop 7).take 1) = (c : Int)) := hc
 clear hc
 have sub : ∀ {a b : World}, Kept [R] a b → Kept [R, H, P] a b := fun h => ⟨h.os, h.tape, h.output, h.size, fun k hk hS => h.block k hk (fun hm => hS (by simp at hm ⊢; exact .inl hm))⟩
 have HSub := @id (Hid (∀ {a b : World}, Kept [R] a b → Kept [R, H, P] a b)) sub
 clear sub
 obtain ⟨m1, hm1⟩ : ∃ m, m = num (l.take 1) := ⟨_, rfl⟩
 obtain ⟨r1, hr1⟩ : ∃ r, r = l.drop 1 := ⟨_, rfl⟩
 obtain ⟨m2, hm2⟩ : ∃ m, m = num (r1.take 2) := ⟨_, rfl⟩
 obtain ⟨r2, hr2⟩ : ∃ r, r = r1.drop 2 := ⟨_, rfl⟩
 obtain ⟨m3, hm3⟩ : ∃ m, m = num (r2.take 4) := ⟨_, rfl⟩
 obtain ⟨r3, hr3⟩ : ∃ r, r = r2.drop 4 := ⟨_, rfl⟩
 obtain ⟨r4, hr4⟩ : ∃ r, r = r3.drop 1 := ⟨_, rfl⟩
 obtain ⟨x5, hx5⟩ : ∃ x, x = ba (r4.take c) := ⟨_, rfl⟩
 obtain ⟨r5, hr5⟩ : ∃ r, r = r4.drop c := ⟨_, rfl⟩
 have l1 : r1.length = l.length - 1 := by rw [hr1]; simp
 have l2 : r2.length = l.length - 3 := by rw [hr2]; simp; omega
 have l3 : r3.length = l.length - 7 := by rw [hr3]; simp; omega
 have l4 : r4.length = l.length - 8 := by rw [hr4]; simp; omega
 have hm4 : (c : Int) = num (r3.take 1) := by rw [← HC.out, hr3, hr2, hr1]; simp
 have f2 : m2 = num ((l.drop 1).take 2) := by rw [hm2, hr1]
 have f3 : m3 = num ((l.drop 3).take 4) := by rw [hm3, hr2, hr1]; simp
 have f5 : x5 = ba ((l.drop 8).take c) := by rw [hx5, hr4, hr3, hr2, hr1]; simp
 have g5 : r5 = l.drop (8 + c) := by rw [hr5, hr4, hr3, hr2, hr1]; simp
 rw [← hm1, ← f2, ← f3, ← f5, ← g5]
 have E1 : Hid _ := hm1
 have E2 : Hid _ := hm2
 have E3 : Hid _ := hm3
 have E4 : Hid _ := hm4
 have E5 : Hid _ := hx5
 have D1 : Hid _ := hr1
 have D2 : Hid _ := hr2
 have D3 : Hid _ := hr3
 have D4 : Hid _ := hr4
 have D5 : Hid _ := hr5
 have q1 : 2 ≤ r1.length := by omega
 have q2 : 4 ≤ r2.length := by omega
 have q3 : 1 ≤ r3.length := by omega
 have q4 : c ≤ r4.length := by omega
 clear hm1 hm2 hm3 hm4 hx5 hr1 hr2 hr3 hr4 hr5 f2 f3 f5 g5 l1 l2 l3 l4
 go_enter Tryz.func137, Tryz.ntmps137
 go_wp2_with fail
 refine (numberL_some R 1 1 m1 l r1 _ E1.out D1.out rfl bR (by omega) (by decide)).mono ?_
 rintro e w1 ⟨rfl, bR1, k1⟩
 have bH1 := bH.kept k1 (by simpa using fun h => hRH h.symm)
 have bP1 := bP.kept k1 (by simpa using fun h => hRP h.symm)
 have cH := bH1.cell (j := 0) (u := hv) rfl
 have fH := bH1.free 0
 go_wp2_with fail
 have bR1' := bR1.other (a := ⟨H, 0, none⟩) hRH (.int .i64 m1)
 have bP1' := bP1.other (a := ⟨H, 0, none⟩) (fun h => hHP h.symm) (.int .i64 m1)
 have bH1' : Blk _ H #[.int .i64 m1] 3 := bH1.set 0 (.int .i64 m1)
 have K1 := (HSub.out k1).setCell (p := ⟨H, 0, none⟩) (by simp) (.int .i64 m1)
 refine (numberL_some R 2 2 m2 r1 r2 _ E2.out D2.out rfl bR1' q1 (by decide)).mono ?_
 rintro e w2 ⟨rfl, bR2, k2⟩
 have bH2 := bH1'.kept k2 (by simpa using fun h => hRH h.symm)
 have bP2 := bP1'.kept k2 (by simpa using fun h => hRP h.symm)
 have K2 := K1.trans (HSub.out k2)
 have cP := bP2.cell (j := 0) (u := s0) rfl
 have fP := bP2.free 0
 clear cH fH bR1 bR1' bP1 bP1' bH1 bH1' K1 k1 k2
 go_wp2_with fail
 have bR2' := bR2.other (a := ⟨P, 0, none⟩) hRP (.int .i64 m2)
 have bP2' : Blk _ P #[.int .i64 m2, t0, f0, e0, k0, x0] 63 := bP2.set 0 (.int .i64 m2)
 have bH2' := bH2.other (a := ⟨P, 0, none⟩) hHP (.int .i64 m2)
 have K2' := K2.setCell (p := ⟨P, 0, none⟩) (by simp) (.int .i64 m2)
 refine (numberL_some R 4 4 m3 r2 r3 _ E3.out D3.out rfl bR2' q2 (by decide)).mono ?_
 rintro e w3 ⟨rfl, bR3, k3⟩
 have bH3 := bH2'.kept k3 (by simpa using fun h => hRH h.symm)
 have bP3 := bP2'.kept k3 (by simpa using fun h => hRP h.symm)
 have K3 := K2'.trans (HSub.out k3)
 have cP1 := bP3.cell (j := 1) (u := t0) rfl
 have fP1 := bP3.free 1
 clear cP fP bR2 bR2' bP2 bP2' bH2 bH2' K2 K2' k3
 go_wp2_with fail
 have bR3' := bR3.other (a := ⟨P, 1, none⟩) hRP (.int .i64 m3)
 have bP3' : Blk _ P #[.int .i64 m2, .int .i64 m3, f0, e0, k0, x0] 63 := bP3.set 1 (.int .i64 m3)
 have bH3' := bH3.other (a := ⟨P, 1, none⟩) hHP (.int .i64 m3)
 have K3' := K3.setCell (p := ⟨P, 1, none⟩) (by simp) (.int .i64 m3)
 refine (numberL_some R 1 1 (c : Int) r3 r4 _ E4.out D4.out rfl bR3' q3 (by decide)).mono ?_
 rintro e w4 ⟨rfl, bR4, k4⟩
 have bH4 := bH3'.kept k4 (by simpa using fun h => hRH h.symm)
 have bP4 := bP3'.kept k4 (by simpa using fun h => hRP h.symm)
 have K4 := K3'.trans (HSub.out k4)
 clear cP1 fP1 bR3 bR3' bP3 bP3' bH3 bH3' K3 K3' k4
 go_wp2_with fail
 refine (textL_some R c x5 r4 r5 _ E5.out D5.out bR4 q4 hc255).mono ?_
 rintro e w5 ⟨rfl, bR5, k5⟩
 have bH5 := bH4.kept k5 (by simpa using fun h => hRH h.symm)
 have bP5 := bP4.kept k5 (by simpa using fun h => hRP h.symm)
 have K5 := K4.trans (HSub.out k5)
 have cP5 := bP5.cell (j := 5) (u := x0) rfl
 have fP5 := bP5.free 5
 clear bR4 bP4 bH4 K4 k5
 go_wp2
 go_end0
 exact ⟨rfl, bR5.other (a := ⟨P, 5, none⟩) hRP _, bH5.other (a := ⟨P, 5, none⟩) hHP _, bP5.set 5 _, K5.setCell (p := ⟨P, 5, none⟩) (by simp) _⟩
set_option maxHeartbeats 4000000 in
theorem closure_few (R H P : Nat) (l : List UInt8) (hv s0 t0 f0 e0 k0 x0 : Value) (w : World)
  (bR : Blk w R #[.string (ba l)] 217) (bH : Blk w H #[hv] 3) (bP : Blk w P #[s0, t0, f0, e0, k0, x0] 63)
  (hRH : R ≠ H) (hRP : R ≠ P) (hHP : H ≠ P) (hfew : l.length < 8 ∨ ∃ c : Nat, num ((l.drop 7).take 1) = (c : Int) ∧ l.length < 8 + c) :
  Calls Tryz.prog 137 #[.pointer (some ⟨R, 0, none⟩), .pointer (some ⟨H, 0, none⟩), .pointer (some ⟨P, 0, none⟩)] w fun e w' =>
   e = .panicked few ∧ Kept [R, H, P] w w' := by
 have sub : ∀ {a b : World}, Kept [R] a b → Kept [R, H, P] a b := fun h => ⟨h.os, h.tape, h.output, h.size, fun k hk hS => h.block k hk (fun hm => hS (by simp at hm ⊢; exact .inl hm))⟩
 have HSub := @id (Hid (∀ {a b : World}, Kept [R] a b → Kept [R, H, P] a b)) sub
 clear sub
 obtain ⟨m1, hm1⟩ : ∃ m, m = num (l.take 1) := ⟨_, rfl⟩
 obtain ⟨r1, hr1⟩ : ∃ r, r = l.drop 1 := ⟨_, rfl⟩
 obtain ⟨m2, hm2⟩ : ∃ m, m = num (r1.take 2) := ⟨_, rfl⟩
 obtain ⟨r2, hr2⟩ : ∃ r, r = r1.drop 2 := ⟨_, rfl⟩
 obtain ⟨m3, hm3⟩ : ∃ m, m = num (r2.take 4) := ⟨_, rfl⟩
 obtain ⟨r3, hr3⟩ : ∃ r, r = r2.drop 4 := ⟨_, rfl⟩
 obtain ⟨m4, hm4⟩ : ∃ m, m = num (r3.take 1) := ⟨_, rfl⟩
 obtain ⟨r4, hr4⟩ : ∃ r, r = r3.drop 1 := ⟨_, rfl⟩
 have l1 : r1.length = l.length - 1 := by rw [hr1]; simp
 have l2 : r2.length = l.length - 3 := by rw [hr2]; simp; omega
 have l3 : r3.length = l.length - 7 := by rw [hr3]; simp; omega
 have l4 : r4.length = l.length - 8 := by rw [hr4]; simp; omega
 have hq4 : 8 ≤ l.length → (r4.length : Int) < m4 := by
  intro h
  rcases hfew with hf | ⟨c, hc, hcl⟩
  ·omega
  ·have : m4 = (c : Int) := by rw [hm4, ← hc, hr3, hr2, hr1]; simp
   omega
 have E1 : Hid _ := hm1
 have E2 : Hid _ := hm2
 have E3 : Hid _ := hm3
 have E4 : Hid _ := hm4
 have D1 : Hid _ := hr1
 have D2 : Hid _ := hr2
 have D3 : Hid _ := hr3
 have D4 : Hid _ := hr4
 have L1 : Hid _ := l1
 have L2 : Hid _ := l2
 have L3 : Hid _ := l3
 have HQ : Hid _ := hq4
 clear hm1 hm2 hm3 hm4 hr1 hr2 hr3 hr4 l1 l2 l3 l4 hq4 hfew
 go_enter Tryz.func137, Tryz.ntmps137
 go_wp2_with fail
 by_cases hA : l.length < 1
 ·refine (numberL_few R l 1 _ bR (by omega)).mono ?_
  rintro e w1 ⟨rfl, rfl⟩
  go_wp2_with fail
  exact ⟨rfl, rfl, Kept.refl _ _⟩
 refine (numberL_some R 1 1 m1 l r1 _ E1.out D1.out rfl bR (by omega) (by decide)).mono ?_
 rintro e w1 ⟨rfl, bR1, k1⟩
 have bH1 := bH.kept k1 (by simpa using fun h => hRH h.symm)
 have bP1 := bP.kept k1 (by simpa using fun h => hRP h.symm)
 have cH := bH1.cell (j := 0) (u := hv) rfl
 have fH := bH1.free 0
 go_wp2_with fail
 have bR1' := bR1.other (a := ⟨H, 0, none⟩) hRH (.int .i64 m1)
 have bP1' := bP1.other (a := ⟨H, 0, none⟩) (fun h => hHP h.symm) (.int .i64 m1)
 have K1 := (HSub.out k1).setCell (p := ⟨H, 0, none⟩) (by simp) (.int .i64 m1)
 by_cases hB : l.length < 3
 ·refine (numberL_few R r1 2 _ bR1' (by have := L1.out; omega)).mono ?_
  rintro e w2 ⟨rfl, rfl⟩
  go_wp2_with fail
  exact ⟨rfl, rfl, K1⟩
 refine (numberL_some R 2 2 m2 r1 r2 _ E2.out D2.out rfl bR1' (by have := L1.out; omega) (by decide)).mono ?_
 rintro e w2 ⟨rfl, bR2, k2⟩
 have bP2 := bP1'.kept k2 (by simpa using fun h => hRP h.symm)
 have K2 := K1.trans (HSub.out k2)
 have cP := bP2.cell (j := 0) (u := s0) rfl
 have fP := bP2.free 0
 clear cH fH bR1 bR1' bP1 bP1' bH1 K1 k1 k2
 go_wp2_with fail
 have bR2' := bR2.other (a := ⟨P, 0, none⟩) hRP (.int .i64 m2)
 have bP2' : Blk _ P #[.int .i64 m2, t0, f0, e0, k0, x0] 63 := bP2.set 0 (.int .i64 m2)
 have K2' := K2.setCell (p := ⟨P, 0, none⟩) (by simp) (.int .i64 m2)
 by_cases hC : l.length < 7
 ·refine (numberL_few R r2 4 _ bR2' (by have := L2.out; omega)).mono ?_
  rintro e w3 ⟨rfl, rfl⟩
  go_wp2_with fail
  exact ⟨rfl, rfl, K2'⟩
 refine (numberL_some R 4 4 m3 r2 r3 _ E3.out D3.out rfl bR2' (by have := L2.out; omega) (by decide)).mono ?_
 rintro e w3 ⟨rfl, bR3, k3⟩
 have bP3 := bP2'.kept k3 (by simpa using fun h => hRP h.symm)
 have K3 := K2'.trans (HSub.out k3)
 have cP1 := bP3.cell (j := 1) (u := t0) rfl
 have fP1 := bP3.free 1
 clear cP fP bR2 bR2' bP2 bP2' K2 K2' k3
 go_wp2_with fail
 have bR3' := bR3.other (a := ⟨P, 1, none⟩) hRP (.int .i64 m3)
 have K3' := K3.setCell (p := ⟨P, 1, none⟩) (by simp) (.int .i64 m3)
 by_cases hD : l.length < 8
 ·refine (numberL_few R r3 1 _ bR3' (by have := L3.out; omega)).mono ?_
  rintro e w4 ⟨rfl, rfl⟩
  go_wp2_with fail
  exact ⟨rfl, rfl, K3'⟩
 refine (numberL_some R 1 1 m4 r3 r4 _ E4.out D4.out rfl bR3' (by have := L3.out; omega) (by decide)).mono ?_
 rintro e w4 ⟨rfl, bR4, k4⟩
 have K4 := K3'.trans (HSub.out k4)
 clear cP1 fP1 bR3 bR3' bP3 K3 K3' k4
 go_wp2_with fail
 refine (textL_few R r4 m4 _ bR4 (HQ.out (by omega))).mono ?_
 rintro e w5 ⟨rfl, rfl⟩
 go_wp2_with fail
 exact ⟨rfl, rfl, K4⟩
theorem catch_idle (p q : Addr) (w : World) :
  CallsD Tryz.prog 159 #[.pointer (some p), .pointer (some q)] .returning w fun e u' w' => e = .returned (.tuple #[]) ∧ u' = .returning ∧ w' = w := by
 refine callsD_of_wpS Tryz.func159 rfl fun c₀ cs hu => ?_
 apply wpS_seq
 apply wpS_region
 simp [wpOpsS, go_sem, recoverD, hu, Tryz.ntmps159, Exit.thenS]
 refine wpS_of_wp ?_
 rw [show (#[Value.pointer (some p), Value.pointer (some q)] ++ ((Array.replicate 14 undef).setIfInBounds 3 Value.nilIface).setIfInBounds 0 Value.nilIface) = #[.pointer (some p), .pointer (some q), .nilIface, undef, undef, .nilIface, undef, undef, undef, undef, undef, undef, undef, undef, undef, undef] from rfl]
 go_wp2
 cases c₀
 simp_all [bodyPostS, results, Tryz.results159]
theorem assert_few (w : World) : (Instr.typeAssert (.iface 214 (.agg #[])) 20 214 true).run Tryz.prog w = .ok (.tuple #[.agg #[], .bool true]) w := by kernel_rfl
theorem catch_few (b c : Nat) (x y : Value) (older : List PanicEntry) (w : World) (hb : Blk w b #[x] 9) (hc : Blk w c #[y] 4) (hbc : b ≠ c) :
  CallsD Tryz.prog 159 #[.pointer (some ⟨b, 0, none⟩), .pointer (some ⟨c, 0, none⟩)] (.panicking ({ v := .iface 214 (.agg #[]), recovered := false } :: older)) w fun e u' w' =>
   e = .returned (.tuple #[]) ∧ u' = .panicking ({ v := .iface 214 (.agg #[]), recovered := true } :: older) ∧ w' = ((w.alloc (.cells #[] 214)).setCell ⟨b, 0, none⟩ (.string ⟨#[]⟩)).setCell ⟨c, 0, none⟩ (.bool false) := by
 have hta := assert_few
 have hb0 := (hb.alloc (.cells #[] 214)).cell (j := 0) (u := x) rfl
 have hbz := (hb.alloc (.cells #[] 214)).free 0
 have hc1 := (hc.alloc (.cells #[] 214)).other (a := ⟨b, 0, none⟩) (fun h => hbc h.symm) (.string ⟨#[]⟩)
 have hc0 := hc1.cell (j := 0) (u := y) rfl
 have hcz := hc1.free 0
 refine callsD_of_wpS Tryz.func159 rfl fun c₀ cs hu => ?_
 apply wpS_seq
 apply wpS_region
 simp [wpOpsS, go_sem, recoverD, hu, Tryz.ntmps159, Exit.thenS]
 refine wpS_of_wp ?_
 rw [show (#[Value.pointer (some ⟨b, 0, none⟩), Value.pointer (some ⟨c, 0, none⟩)] ++ ((Array.replicate 14 undef).setIfInBounds 3 (Value.iface 214 (Value.agg #[]))).setIfInBounds 0 (Value.iface 214 (Value.agg #[]))) = #[.pointer (some ⟨b, 0, none⟩), .pointer (some ⟨c, 0, none⟩), .iface 214 (.agg #[]), undef, undef, .iface 214 (.agg #[]), undef, undef, undef, undef, undef, undef, undef, undef, undef, undef] from rfl]
 go_wp2
 cases c₀
 simp_all [bodyPostS, results, Tryz.results159]
theorem read_start (w : World) (l : List UInt8) : ∀ W0, W0 = ((w.alloc (.cells #[.string ⟨#[]⟩] 9)).alloc (.cells #[.bool false] 4)).alloc (.cells #[.string (ba l)] 217) →
  Blk W0 w.heap.size #[.string ⟨#[]⟩] 9 ∧ Blk W0 (w.heap.size + 1) #[.bool false] 4 ∧ Blk W0 (w.heap.size + 1 + 1) #[.string (ba l)] 217 ∧ Below w.heap.size w W0 ∧ W0.heap.size = w.heap.size + 3 := by
 intro W0 h
 subst h
 refine ⟨((Blk.new w _ _).alloc _).alloc _, ?_, ?_, by go_grown, by simp⟩
 ·have := Blk.new (w.alloc (.cells #[.string ⟨#[]⟩] 9)) #[.bool false] 4
  rw [World.size_alloc] at this
  exact this.alloc _
 ·have := Blk.new ((w.alloc (.cells #[.string ⟨#[]⟩] 9)).alloc (.cells #[.bool false] 4)) #[.string (ba l)] 217
  rw [World.size_alloc, World.size_alloc] at this
  exact this
set_option maxHeartbeats 2000000 in
theorem whole_ok (H P c : Nat) (l : List UInt8) (hv s0 t0 f0 e0 k0 x0 : Value) (w : World)
  (bH : Blk w H #[hv] 3) (bP : Blk w P #[s0, t0, f0, e0, k0, x0] 63)
  (hHP : H ≠ P) (h8 : 8 ≤ l.length) (hc : num ((l.drop 7).take 1) = (c : Int)) (hcl : 8 + c ≤ l.length) (hc255 : c ≤ 255) :
  Calls Tryz.prog 136 #[.string (ba l), .func (.func 137) #[] #[.pointer (some ⟨H, 0, none⟩), .pointer (some ⟨P, 0, none⟩)]] w fun e w' =>
   e = .returned (.tuple #[.string (ba (l.drop (8 + c))), .bool true]) ∧ Blk w' H #[.int .i64 (num (l.take 1))] 3 ∧
   Blk w' P #[.int .i64 (num ((l.drop 1).take 2)), .int .i64 (num ((l.drop 3).take 4)), f0, e0, k0, .string (ba ((l.drop 8).take c))] 63 ∧ Kept [H, P] w w' := by
 have hmf : ∀ (fn : Fn) (first cap : Array Value) (w : World), (Instr.makeFunc fn first cap).run Tryz.prog w = .ok (.func fn first cap) w := fun _ _ _ _ => rfl
 have HC : Hid _ := hc
 obtain ⟨r, hr⟩ : ∃ r, r = l.drop (8 + c) := ⟨_, rfl⟩
 rw [← hr]
 have HR : Hid (r = l.drop (8 + c)) := hr
 clear hc hr
 go_enter_defers Tryz.func136, Tryz.ntmps136
 go_wp2_with fail
 obtain ⟨W0, hW0⟩ : ∃ W0, W0 = ((w.alloc (.cells #[.string ⟨#[]⟩] 9)).alloc (.cells #[.bool false] 4)).alloc (.cells #[.string (ba l)] 217) := ⟨_, rfl⟩
 obtain ⟨bA0, bB0, bR0, be0, hs0⟩ := read_start w l W0 hW0
 have bH0 : Blk W0 H #[hv] 3 := bH.below be0 bH.lt
 have bP0 : Blk W0 P #[s0, t0, f0, e0, k0, x0] 63 := bP.below be0 bP.lt
 have K0 : Kept [H, P] w W0 := (Kept.refl _ w).below be0
 rw [← hW0]
 clear hW0
 have hHl := bH.lt
 have hPl := bP.lt
 refine (closure_ok (w.heap.size + 1 + 1) H P c l hv s0 t0 f0 e0 k0 x0 W0 bR0 bH0 bP0 (by omega) (by omega) hHP h8 HC.out hcl hc255).mono ?_
 rintro e w1 ⟨rfl, bR1, bH1, bP1, k1⟩
 have bA1 := bA0.kept k1 (by simp; omega)
 have bB1 := bB0.kept k1 (by simp; omega)
 have K1 := K0.more k1 (by intro j hj hl; simp at hj ⊢; omega)
 rw [← HR.out] at bR1
 have cR := bR1.cell (j := 0) (u := .string (ba r)) rfl
 have cA := bA1.cell (j := 0) (u := .string ⟨#[]⟩) rfl
 have fA := bA1.free 0
 have bB2 := bB1.other (a := ⟨w.heap.size, 0, none⟩) (by show w.heap.size + 1 ≠ w.heap.size; omega) (.string (ba r))
 have cB := bB2.cell (j := 0) (u := .bool false) rfl
 have fB := bB2.free 0
 clear k1 bR0 bA0 bB0 bH0 bP0 K0 bR1
 go_wp2
 have bA3 := (bA1.set 0 (.string (ba r))).other (a := ⟨w.heap.size + 1, 0, none⟩) (by show w.heap.size ≠ w.heap.size + 1; omega) (.bool true)
 have bB3 := bB2.set 0 (.bool true)
 have cA3 := bA3.cell (j := 0) (u := .string (ba r)) rfl
 have cB3 := bB3.cell (j := 0) (u := .bool true) rfl
 refine leaves_cons (f := 159) (args := #[.pointer (some ⟨w.heap.size, 0, none⟩), .pointer (some ⟨w.heap.size + 1, 0, none⟩)]) (by simp) (by simp [go_sem]) ?_
 refine (catch_idle ⟨w.heap.size, 0, none⟩ ⟨w.heap.size + 1, 0, none⟩ _).mono ?_
 rintro e u' w'' ⟨rfl, rfl, rfl⟩
 simp [Leaves, settle, results, Tryz.results136, go_sem, cA3, cB3]
 have bH3 := (bH1.other (a := ⟨w.heap.size, 0, none⟩) (by show H ≠ w.heap.size; omega) (.string (ba r))).other (a := ⟨w.heap.size + 1, 0, none⟩) (by show H ≠ w.heap.size + 1; omega) (.bool true)
 have bP3 := (bP1.other (a := ⟨w.heap.size, 0, none⟩) (by show P ≠ w.heap.size; omega) (.string (ba r))).other (a := ⟨w.heap.size + 1, 0, none⟩) (by show P ≠ w.heap.size + 1; omega) (.bool true)
 have K3 := (K1.setNew (p := ⟨w.heap.size, 0, none⟩) (Nat.le_refl _) (.string (ba r))).setNew (p := ⟨w.heap.size + 1, 0, none⟩) (Nat.le_succ _) (.bool true)
 exact ⟨bH3, by simpa using bP3, K3⟩
set_option maxHeartbeats 2000000 in
theorem whole_few (H P : Nat) (l : List UInt8) (hv s0 t0 f0 e0 k0 x0 : Value) (w : World)
  (bH : Blk w H #[hv] 3) (bP : Blk w P #[s0, t0, f0, e0, k0, x0] 63)
  (hHP : H ≠ P) (hfew : l.length < 8 ∨ ∃ c : Nat, num ((l.drop 7).take 1) = (c : Int) ∧ l.length < 8 + c) :
  Calls Tryz.prog 136 #[.string (ba l), .func (.func 137) #[] #[.pointer (some ⟨H, 0, none⟩), .pointer (some ⟨P, 0, none⟩)]] w fun e w' =>
   e = .returned (.tuple #[.string ⟨#[]⟩, .bool false]) ∧ Kept [H, P] w w' := by
 have hmf : ∀ (fn : Fn) (first cap : Array Value) (w : World), (Instr.makeFunc fn first cap).run Tryz.prog w = .ok (.func fn first cap) w := fun _ _ _ _ => rfl
 have HC : Hid _ := hfew
 clear hfew
 go_enter_defers Tryz.func136, Tryz.ntmps136
 go_wp2_with fail
 obtain ⟨W0, hW0⟩ : ∃ W0, W0 = ((w.alloc (.cells #[.string ⟨#[]⟩] 9)).alloc (.cells #[.bool false] 4)).alloc (.cells #[.string (ba l)] 217) := ⟨_, rfl⟩
 obtain ⟨bA0, bB0, bR0, be0, hs0⟩ := read_start w l W0 hW0
 have bH0 : Blk W0 H #[hv] 3 := bH.below be0 bH.lt
 have bP0 : Blk W0 P #[s0, t0, f0, e0, k0, x0] 63 := bP.below be0 bP.lt
 have K0 : Kept [H, P] w W0 := (Kept.refl _ w).below be0
 rw [← hW0]
 clear hW0
 have hHl := bH.lt
 have hPl := bP.lt
 refine (closure_few (w.heap.size + 1 + 1) H P l hv s0 t0 f0 e0 k0 x0 W0 bR0 bH0 bP0 (by omega) (by omega) hHP HC.out).mono ?_
 rintro e w1 ⟨rfl, k1⟩
 have bA1 := bA0.kept k1 (by simp; omega)
 have bB1 := bB0.kept k1 (by simp; omega)
 have K1 := K0.more k1 (by intro j hj hl; simp at hj ⊢; omega)
 clear k1 bR0 bA0 bB0 bH0 bP0 K0
 simp only [few]
 go_wp2
 refine leaves_cons (f := 159) (args := #[.pointer (some ⟨w.heap.size, 0, none⟩), .pointer (some ⟨w.heap.size + 1, 0, none⟩)]) (by simp) (by simp [go_sem]) ?_
 refine (catch_few w.heap.size (w.heap.size + 1) (.string ⟨#[]⟩) (.bool false) [] _ bA1 bB1 (by omega)).mono ?_
 rintro e u' w'' ⟨rfl, rfl, rfl⟩
 have bA2 := ((bA1.alloc (.cells #[] 214)).set 0 (.string ⟨#[]⟩)).other (a := ⟨w.heap.size + 1, 0, none⟩) (by show w.heap.size ≠ w.heap.size + 1; omega) (.bool false)
 have bB2 := ((bB1.alloc (.cells #[] 214)).other (a := ⟨w.heap.size, 0, none⟩) (by show w.heap.size + 1 ≠ w.heap.size; omega) (.string ⟨#[]⟩)).set 0 (.bool false)
 have cA2 := bA2.cell (j := 0) (u := .string ⟨#[]⟩) rfl
 have cB2 := bB2.cell (j := 0) (u := .bool false) rfl
 simp [Leaves, settle, results, Tryz.results136, go_sem, cA2, cB2]
 exact ((K1.alloc _).setNew (p := ⟨w.heap.size, 0, none⟩) (Nat.le_refl _) _).setNew (p := ⟨w.heap.size + 1, 0, none⟩) (Nat.le_succ _) _
end Go.Proofs.YtnpaejknoipicagGreat
