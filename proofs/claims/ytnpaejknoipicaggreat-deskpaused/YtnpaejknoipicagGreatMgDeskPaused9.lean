/-
 What stands in a world, and in each one in which nothing but some blocks has turned.
-/
import Derived.Test.YtnpaejknoipicagGreatMgDeskPaused8
import Derived.Test.YtnpaejknoipicagGreatMgDeskPaused5
import Derived.Test.YtnpaejknoipicagGreatMgDeskPaused6
import Derived.Deep.RegionHeld3
import Derived.BigQuiet
import Derived.Lib.QuietBelow
import Derived.Test.YtnpaejknoipicagGreatMgDeskPaused1
import Derived.Test.YtnpaejknoipicagGreatMgDeskPaused3
import Derived.Test.YtnpaejknoipicagGreatMgDeskPaused2
namespace Go.Proofs.YtnpaejknoipicagGreat
open Go.RowKit
set_option maxHeartbeats 8000000 in
set_option maxRecDepth 100000 in
theorem findPlace_any (M : Nat) (m g f first : Int) (gv ov : Value) (L : List (List Fr)) (O : List Fr) (w : World) (hM : Blk w M #[.int .i64 m, .int .i64 g, .int .i64 f, .int .i64 first, gv, ov] 201) (hg : GrsIn (fun _ => True) w gv L) (ho : FrsIn (fun _ => True) w ov O) (hgb : g ≤ 1000000) (hgl : -1000000 ≤ g) :
  Calls Tryz.prog 148 #[.pointer (some ⟨M, 0, none⟩)] w fun e w' => e = .returned (.bool (plT first L O g f)) ∧ Blk w' M #[.int .i64 m, .int .i64 (plG first L O m g f), .int .i64 (plF first L O g f), .int .i64 first, gv, ov] 201 ∧ Kept [M] w w' := by
 obtain ⟨ga, gc, eg, _, _⟩ := hg.len
 obtain ⟨oa, oc, eo, _, _⟩ := ho.len
 obtain ⟨ln, hln⟩ : ∃ n, n = L.length := ⟨_, rfl⟩
 obtain ⟨lo, hlo⟩ : ∃ n, n = O.length := ⟨_, rfl⟩
 rw [← hln] at eg
 rw [← hlo] at eo
 obtain ⟨E, hE⟩ : ∃ E, E = getE first L O g := ⟨_, rfl⟩
 obtain ⟨X, hX⟩ : ∃ X, X = getG first L O g := ⟨_, rfl⟩
 obtain ⟨nX, hnX⟩ : ∃ n, n = X.length := ⟨_, rfl⟩
 obtain ⟨PS, hPS⟩ : ∃ n, n = plS first L O m := ⟨_, rfl⟩
 obtain ⟨PG, hPG⟩ : ∃ n, n = plG first L O m g f := ⟨_, rfl⟩
 obtain ⟨PF, hPF⟩ : ∃ n, n = plF first L O g f := ⟨_, rfl⟩
 obtain ⟨PT, hPT⟩ : ∃ n, n = plT first L O g f := ⟨_, rfl⟩
 have HGET : Hid (∀ U : World, Below w.heap.size w U → Calls Tryz.prog 166 #[.agg #[.int .i64 first, gv, ov], .int .i64 g] U fun e w' => ∃ a c, e = .returned (.tuple #[.agg #[.slice a nX c], .int .i64 E]) ∧ Hid (FrsIn (fun g => U.heap.size ≤ g) w' (.slice a nX c) X) ∧ Below U.heap.size U w') := fun U hU => by
  rw [hnX, hX, hE]; exact storeGet_new first gv ov L O g U (hg.below hU) (ho.below hU) (by omega)
 have HST : Hid (∀ U : World, Below w.heap.size w U → Blk U M #[.int .i64 m, .int .i64 g, .int .i64 f, .int .i64 first, gv, ov] 201 → Calls Tryz.prog 167 #[.pointer (some ⟨M, 0, none⟩)] U fun e w' => e = .returned (.int .i64 PS) ∧ Below U.heap.size U w') := fun U hU hk => by
  rw [hPS]; exact start_any M m g f first gv ov L O U hk (hg.below hU) (ho.below hU)
 have HYES : Hid ((¬ E = 0 ∨ (nX : Int) < f) → PT = true ∧ PG = PS ∧ PF = 0) := fun h => by
  have e : plT first L O g f = true := decide_eq_true (by rw [← hE, ← hX, ← hnX]; exact h)
  rw [hPT, hPG, hPF, hPS]; unfold plG plF; rw [e]; exact ⟨rfl, rfl, rfl⟩
 have HNO : Hid (E = 0 → f ≤ (nX : Int) → PT = false ∧ (f = nX → PG = g + 1 ∧ PF = 0) ∧ (¬ f = nX → PG = g ∧ PF = f)) := fun h1 h2 => by
  have e : plT first L O g f = false := decide_eq_false (by rw [← hE, ← hX, ← hnX]; omega)
  rw [hPT, hPG, hPF]; unfold plG plF; rw [e, ← hX, ← hnX]
  exact ⟨rfl, fun h => ⟨by rw [if_neg (by decide), if_pos h], by rw [if_neg (by decide), if_pos h]⟩, fun h => ⟨by rw [if_neg (by decide), if_neg h], by rw [if_neg (by decide), if_neg h]⟩⟩
 have HM : Hid (Blk w M #[.int .i64 m, .int .i64 g, .int .i64 f, .int .i64 first, gv, ov] 201) := hM
 rw [← hPT, ← hPG, ← hPF]
 clear hE hX hnX hPS hPG hPF hPT hg ho hln hlo hM
 subst eg eo
 have hMw := HM.out.lt
 go_enter Tryz.func148, Tryz.ntmps148
 go_wp2_with fail
 refine region_main (by kernel_rfl) (by kernel_rfl) [.quiet (.pointer (some ⟨M, 0, none⟩)), .quiet (.pointer (some ⟨M, 0, none⟩)), .quiet (.pointer (some ⟨M, 3, none⟩)), .quiet (.agg #[.int .i64 first, .slice ga ln gc, .slice oa lo oc]), .quiet (.pointer (some ⟨M, 0, none⟩)), .quiet (.pointer (some ⟨M, 0, none⟩)), .quiet (.pointer (some ⟨M, 0, none⟩)), .quiet (.pointer (some ⟨M, 1, none⟩)), .quiet (.int .i64 g), .main, .fin (fun r => r), .fin (exT 0), .fin (exT 1), .box 30 #[.slice none 0 0], .put 13 (fun r => aggC (exT 0 r)), .fin (exT 1)] 9 (by kernel_rfl)
  (fun S r w' => ∃ a1 c1, r = .tuple #[.agg #[.slice a1 nX c1], .int .i64 E] ∧ FrsIn S w' (.slice a1 nX c1) X) ?loc ?step ?fin
 case loc =>
  rintro S r w1 w3 ⟨a1, c1, rfl, h1⟩ hs hsame
  exact ⟨a1, c1, rfl, h1.to ⟨hs, fun g hg hS => hsame g hS hg⟩ (fun _ _ h => h)⟩
 case step =>
  intro i o ho a' w' r hb hfree hvals
  have f0 : a'.eval (.tmp 0) = .pointer (some ⟨M, 0, none⟩) := (hfree 0 (by kernel_rfl)).trans rfl
  obtain ⟨y0, y1, y2, y3, y4, y5⟩ := (HM.out.below hb HM.out.lt).sixw
  match i, ho with
  | 0, ho =>
   simp at ho; subst ho
   show (execOp a'.eval _).run _ w' = .ok (.value _) w'
   generalize a'.eval = ρ at *
   simp [execOp, go_sem, f0]
  | 1, ho =>
   simp at ho; subst ho
   have e6 : a'.eval (.tmp 6) = .pointer (some ⟨M, 0, none⟩) := hvals 0 _ (by kernel_rfl) rfl
   show (execOp a'.eval _).run _ w' = .ok (.value _) w'
   generalize a'.eval = ρ at *
   simp [execOp, go_sem, e6]
  | 2, ho =>
   simp at ho; subst ho
   have e7 : a'.eval (.tmp 7) = .pointer (some ⟨M, 0, none⟩) := hvals 1 _ (by kernel_rfl) rfl
   show (execOp a'.eval _).run _ w' = .ok (.value _) w'
   generalize a'.eval = ρ at *
   simp [execOp, go_sem, e7]
  | 3, ho =>
   simp at ho; subst ho
   have e8 : a'.eval (.tmp 8) = .pointer (some ⟨M, 3, none⟩) := hvals 2 _ (by kernel_rfl) rfl
   show (execOp a'.eval _).run _ w' = .ok (.value _) w'
   generalize a'.eval = ρ at *
   simp [execOp, go_sem, e8, y3, y4, y5]
  | 4, ho =>
   simp at ho; subst ho
   show (execOp a'.eval _).run _ w' = .ok (.value _) w'
   generalize a'.eval = ρ at *
   simp [execOp, go_sem, f0]
  | 5, ho =>
   simp at ho; subst ho
   have e10 : a'.eval (.tmp 10) = .pointer (some ⟨M, 0, none⟩) := hvals 4 _ (by kernel_rfl) rfl
   show (execOp a'.eval _).run _ w' = .ok (.value _) w'
   generalize a'.eval = ρ at *
   simp [execOp, go_sem, e10]
  | 6, ho =>
   simp at ho; subst ho
   have e11 : a'.eval (.tmp 11) = .pointer (some ⟨M, 0, none⟩) := hvals 5 _ (by kernel_rfl) rfl
   show (execOp a'.eval _).run _ w' = .ok (.value _) w'
   generalize a'.eval = ρ at *
   simp [execOp, go_sem, e11]
  | 7, ho =>
   simp at ho; subst ho
   have e12 : a'.eval (.tmp 12) = .pointer (some ⟨M, 0, none⟩) := hvals 6 _ (by kernel_rfl) rfl
   show (execOp a'.eval _).run _ w' = .ok (.value _) w'
   generalize a'.eval = ρ at *
   simp [execOp, go_sem, e12]
  | 8, ho =>
   simp at ho; subst ho
   have e13 : a'.eval (.tmp 13) = .pointer (some ⟨M, 1, none⟩) := hvals 7 _ (by kernel_rfl) rfl
   show (execOp a'.eval _).run _ w' = .ok (.value _) w'
   generalize a'.eval = ρ at *
   simp [execOp, go_sem, e13, y1]
  | 9, ho =>
   simp at ho; subst ho
   have e9 : a'.eval (.tmp 9) = .agg #[.int .i64 first, .slice ga ln gc, .slice oa lo oc] := hvals 3 _ (by kernel_rfl) rfl
   have e14 : a'.eval (.tmp 14) = .int .i64 g := hvals 8 _ (by kernel_rfl) rfl
   have ef : a'.eval (.func 166) = .func (.func 166) #[] #[] := rfl
   show ∃ f args, (execOp a'.eval _).run _ w' = .ok (.enter f args) w' ∧ _
   generalize a'.eval = ρ at *
   refine ⟨166, #[.agg #[.int .i64 first, .slice ga ln gc, .slice oa lo oc], .int .i64 g], by simp [execOp, go_sem, e9, e14, ef], ?_⟩
   refine (HGET.out w' hb).mono ?_
   rintro e w'' ⟨a1, c1, rfl, h1, hb4⟩
   exact ⟨_, rfl, ⟨a1, c1, rfl, h1.out.mono (fun g hl hg => ⟨hl, .inr hg⟩)⟩, hb4⟩
  | 10, ho =>
   simp at ho; subst ho
   have e15 : a'.eval (.tmp 15) = r := hvals 9 _ (by kernel_rfl) rfl
   show ∀ S, _ → (execOp a'.eval _).run _ w' = .ok (.value _) w'
   rintro S ⟨a1, c1, rfl, _⟩
   try simp only [exT] at e15
   generalize a'.eval = ρ at *
   simp [execOp, go_sem, e15]
  | 11, ho =>
   simp at ho; subst ho
   have e5 : a'.eval (.tmp 5) = r := hvals 10 _ (by kernel_rfl) rfl
   show ∀ S, _ → (execOp a'.eval _).run _ w' = .ok (.value _) w'
   rintro S ⟨a1, c1, rfl, _⟩
   try simp only [exT] at e5
   generalize a'.eval = ρ at *
   simp [execOp, go_sem, e5, exT]
  | 12, ho =>
   simp at ho; subst ho
   have e5 : a'.eval (.tmp 5) = r := hvals 10 _ (by kernel_rfl) rfl
   show ∀ S, _ → (execOp a'.eval _).run _ w' = .ok (.value _) w'
   rintro S ⟨a1, c1, rfl, _⟩
   try simp only [exT] at e5
   generalize a'.eval = ρ at *
   simp [execOp, go_sem, e5, exT]
  | 13, ho =>
   simp at ho; subst ho
   show (execOp a'.eval _).run _ w' = .ok (.value _) _
   generalize a'.eval = ρ at *
   simp [execOp, go_sem]
  | 14, ho =>
   simp at ho; subst ho
   have e16 : a'.eval (.tmp 16) = (exT 0) r := hvals 11 _ (by kernel_rfl) rfl
   show ∀ S, _ → ∀ t z g C, _ → _ → _ → _ → ∃ w'', (execOp a'.eval _).run _ w' = .ok .skip w'' ∧ _
   rintro S ⟨a1, c1, rfl, _⟩ t z g C hz hC hs (eb : a'.eval (.tmp 3) = _)
   cases hz
   obtain ⟨u0, q0⟩ := cells1 hC hs
   have p0 := hC.free 0
   obtain ⟨m1, m2, m3⟩ := set1 hC hs (.slice a1 nX c1)
   simp only [exT] at e16
   generalize a'.eval = ρ at *
   exact ⟨_, by simp [execOp, go_sem, e16, eb, q0, p0], m1, m2, rfl, m3, rfl, rfl, rfl⟩
  | 15, ho =>
   simp at ho; subst ho
   have e17 : a'.eval (.tmp 17) = (exT 1) r := hvals 12 _ (by kernel_rfl) rfl
   show ∀ S, _ → (execOp a'.eval _).run _ w' = .ok (.value _) w'
   rintro S ⟨a1, c1, rfl, _⟩
   try simp only [exT] at e17
   generalize a'.eval = ρ at *
   simp [execOp, go_sem, e17, exT]
  | i + 16, ho => simp at ho
 case fin =>
  rintro r gs S W hb ⟨a1, c1, rfl, h1⟩ hS hbox hap
  obtain ⟨p1, p2, C, p3, p4⟩ := hbox 13 _ _ (by decide) rfl
  have p5 := p4 14 _ (by decide) rfl
  subst p5
  have KP : Hid (Blk W (gs 13) #[.slice a1 nX c1] 30) := p3
  simp only [putK, Kd.out, exT, Act.put, List.setIfInBounds_toArray, List.set_cons_succ, List.set_cons_zero, List.getElem?_toArray, List.getElem?_cons_zero, List.getElem?_cons_succ, Option.getD_some]
  obtain ⟨p, hp⟩ : ∃ p, p = gs 13 := ⟨_, rfl⟩
  rw [← hp] at KP p1
  rw [← hp]
  have HBW : Hid (Below w.heap.size w W) := hb
  clear hp h1 hS hbox hap p2 p3 p4 hb
  have KM : Hid (Blk W M #[.int .i64 m, .int .i64 g, .int .i64 f, .int .i64 first, .slice ga ln gc, .slice oa lo oc] 201) := HM.out.below HBW.out hMw
  obtain ⟨y0, y1, y2, y3, y4, y5⟩ := KM.out.sixw
  have x0 := KP.out.one
  have KPW : Hid (Kept [M] w W) := ⟨HBW.out.os, HBW.out.tape, HBW.out.output, HBW.out.size, fun j hj _ => HBW.out.block j hj⟩
  have finish : ∀ (G F : Int) (w3 V : World), Below W.heap.size W w3 → V = (w3.setCell ⟨M, 1, none⟩ (.int .i64 G)).setCell ⟨M, 2, none⟩ (.int .i64 F) → Blk V M #[.int .i64 m, .int .i64 G, .int .i64 F, .int .i64 first, .slice ga ln gc, .slice oa lo oc] 201 ∧ Kept [M] w V := fun G F w3 V h3 hV => by
   have k := (KM.out.below h3 (by have := KM.out.lt; omega)).set 1 (.int .i64 G)
   have k' := k.set 2 (.int .i64 F)
   refine ⟨by rw [hV]; simpa using k', ?_⟩
   rw [hV]
   exact ((KPW.out.below h3).setCell (by simp) _).setCell (by simp) _
  have HFIN : Hid (∀ (G F : Int) (w3 V : World), Below W.heap.size W w3 → V = (w3.setCell ⟨M, 1, none⟩ (.int .i64 G)).setCell ⟨M, 2, none⟩ (.int .i64 F) → Blk V M #[.int .i64 m, .int .i64 G, .int .i64 F, .int .i64 first, .slice ga ln gc, .slice oa lo oc] 201 ∧ Kept [M] w V) := finish
  have hMW : M < W.heap.size := KM.out.lt
  clear finish
  have HD : Hid (∀ k, Below W.heap.size W (W.drewN k)) := fun k => below_drewN (Below.refl _ _) k
  have fd : ∀ k j, (W.drewN k).frozen? ⟨M, j, none⟩ = false := fun k j => (KM.out.drewN k).free j
  by_cases hE : E = 0
  ·by_cases hf : (nX : Int) < f
   ·obtain ⟨e1, e2, e3⟩ := HYES.out (.inr hf)
    have HPP : Hid (PT = true ∧ PG = PS ∧ PF = 0) := ⟨e1, e2, e3⟩
    clear e1 e2 e3 HYES HNO
    subst hE
    go_wp2_with fail
    go_quiet (fail)
    go_wp2_with fail
    have bd := HD.out nq
    refine (HST.out _ (HBW.out.trans (bd.mono HBW.out.size)) (KM.out.drewN nq)).mono ?_
    rintro e w3 ⟨rfl, b3⟩
    have b3' : Below W.heap.size W w3 := bd.trans (b3.mono bd.size)
    have k3 := KM.out.below b3' hMW
    obtain ⟨z0, z1, z2, z3, z4, z5⟩ := k3.sixw
    have f3 := k3.free
    have l3 := k3.lt
    obtain ⟨V, hV⟩ : ∃ V, V = (w3.setCell ⟨M, 1, none⟩ (.int .i64 PS)).setCell ⟨M, 2, none⟩ (.int .i64 0) := ⟨_, rfl⟩
    have HV : Hid (Blk V M #[.int .i64 m, .int .i64 PS, .int .i64 0, .int .i64 first, .slice ga ln gc, .slice oa lo oc] 201 ∧ Kept [M] w V) := HFIN.out _ _ _ _ b3' hV
    clear b3 b3' k3 bd
    go_wp2_with fail
    rw [← hV]
    obtain ⟨e1, e2, e3⟩ := HPP.out
    rw [e1, e2, e3]
    exact bodyPost_ret (v := .bool true) (by simp [results, Tryz.results148, go_sem]) rfl ⟨rfl, HV.out⟩
   ·obtain ⟨e1, e2, e3⟩ := HNO.out hE (by omega)
    have HPT : Hid (PT = false) := e1
    by_cases hfe : f = nX
    ·obtain ⟨e4, e5⟩ := e2 hfe
     have HPP : Hid (PG = g + 1 ∧ PF = 0) := ⟨e4, e5⟩
     clear e1 e2 e3 e4 e5 HYES HNO
     subst hE hfe
     go_wp2_with fail
     go_quiet (fail)
     go_wp2_with fail
     go_quiet (fail)
     go_wp2_with fail
     rw [HPT.out, HPP.out.1, HPP.out.2]
     exact bodyPost_ret (v := .bool false) (by simp [results, Tryz.results148, go_sem]) rfl ⟨rfl, HFIN.out _ _ _ _ (HD.out _) rfl⟩
    ·obtain ⟨e4, e5⟩ := e3 hfe
     have HPP : Hid (PG = g ∧ PF = f) := ⟨e4, e5⟩
     have hfb : (f == (nX : Int)) = false := by simpa using hfe
     clear e1 e2 e3 e4 e5 HYES HNO
     subst hE
     go_wp2_with fail
     go_quiet (fail)
     go_wp2_with fail
     go_quiet (fail)
     go_wp2_with fail
     rw [HPT.out, HPP.out.1, HPP.out.2]
     exact bodyPost_ret (v := .bool false) (by simp [results, Tryz.results148, go_sem]) rfl ⟨rfl, (KM.out.drewN _).drewN _, KPW.out.below (below_drewN (HD.out _) _)⟩
  ·obtain ⟨e1, e2, e3⟩ := HYES.out (.inl hE)
   have HPP : Hid (PT = true ∧ PG = PS ∧ PF = 0) := ⟨e1, e2, e3⟩
   have hEb : (E != 0) = true := by simpa using hE
   clear e1 e2 e3 HYES HNO
   go_wp2_with fail
   go_quiet (fail)
   go_wp2_with fail
   have bd := HD.out nq
   refine (HST.out _ (HBW.out.trans (bd.mono HBW.out.size)) (KM.out.drewN nq)).mono ?_
   rintro e w3 ⟨rfl, b3⟩
   have b3' : Below W.heap.size W w3 := bd.trans (b3.mono bd.size)
   have k3 := KM.out.below b3' hMW
   obtain ⟨z0, z1, z2, z3, z4, z5⟩ := k3.sixw
   have f3 := k3.free
   have l3 := k3.lt
   obtain ⟨V, hV⟩ : ∃ V, V = (w3.setCell ⟨M, 1, none⟩ (.int .i64 PS)).setCell ⟨M, 2, none⟩ (.int .i64 0) := ⟨_, rfl⟩
   have HV : Hid (Blk V M #[.int .i64 m, .int .i64 PS, .int .i64 0, .int .i64 first, .slice ga ln gc, .slice oa lo oc] 201 ∧ Kept [M] w V) := HFIN.out _ _ _ _ b3' hV
   clear b3 b3' k3 bd
   go_wp2_with fail
   rw [← hV]
   obtain ⟨e1, e2, e3⟩ := HPP.out
   rw [e1, e2, e3]
   exact bodyPost_ret (v := .bool true) (by simp [results, Tryz.results148, go_sem]) rfl ⟨rfl, HV.out⟩
end Go.Proofs.YtnpaejknoipicagGreat
namespace Go.Proofs.YtnpaejknoipicagGreat
open Go.RowKit Go.Sort
theorem getG_len {first : Int} {L : List (List Fr)} {O : List Fr} {n : Int} (h : getE first L O n = 0) : (getG first L O n).length ≤ 6 := by
 have hg : getG first L O n = grAt (allG L O) (n - first).toNat := if_pos h
 unfold getE at h
 by_cases h1 : stchk first L O = 0
 ·rw [if_pos h1] at h
  by_cases h2 : n < first
  ·rw [if_pos h2] at h; cases h
  ·rw [if_neg h2] at h
   by_cases h3 : ((allG L O).length : Int) ≤ n - first
   ·rw [if_pos h3] at h; cases h
   ·rw [hg]
    exact (gchk_first (allG_right h1 _ (grAt_mem (by omega)))).2.1
 ·rw [if_neg h1] at h; exact absurd h h1
set_option maxHeartbeats 8000000 in
set_option maxRecDepth 100000 in
theorem step_any (M : Nat) (m g f first : Int) (gv ov : Value) (L : List (List Fr)) (O : List Fr) (upto : Int) (w : World) (hM : Blk w M #[.int .i64 m, .int .i64 g, .int .i64 f, .int .i64 first, gv, ov] 201) (hg : GrsIn (fun _ => True) w gv L) (ho : FrsIn (fun _ => True) w ov O) (hgb : g ≤ 1000000) (hgl : -1000000 ≤ g)
  (hin : getE first L O g = 0 → ∃ j : Nat, f = j ∧ j < (getG first L O g).length) :
  Calls Tryz.prog 149 #[.pointer (some ⟨M, 0, none⟩), .int .i64 upto] w fun e w' => ∃ (x : Fr) (pv : Value), e = .returned (.tuple #[.agg #[.int .i64 x.time, .bool x.key, pv], .bool (okB first L O m g f upto)]) ∧ x = (if okB first L O m g f upto then frAt (getG first L O g) f.toNat else Fr.zero) ∧ StrsIn (fun b => w.heap.size ≤ b) w' pv x.parts ∧ Blk w' M #[.int .i64 m, .int .i64 g, .int .i64 (if okB first L O m g f upto then f + 1 else f), .int .i64 first, gv, ov] 201 ∧ Kept [M] w w' := by
 obtain ⟨ga, gc, eg, _, _⟩ := hg.len
 obtain ⟨oa, oc, eo, _, _⟩ := ho.len
 obtain ⟨ln, hln⟩ : ∃ n, n = L.length := ⟨_, rfl⟩
 obtain ⟨lo, hlo⟩ : ∃ n, n = O.length := ⟨_, rfl⟩
 rw [← hln] at eg
 rw [← hlo] at eo
 obtain ⟨E, hE⟩ : ∃ E, E = getE first L O g := ⟨_, rfl⟩
 obtain ⟨X, hX⟩ : ∃ X, X = getG first L O g := ⟨_, rfl⟩
 obtain ⟨nX, hnX⟩ : ∃ n, n = X.length := ⟨_, rfl⟩
 obtain ⟨K, hK⟩ : ∃ n, n = okB first L O m g f upto := ⟨_, rfl⟩
 have HGET : Hid (∀ U : World, Below w.heap.size w U → Calls Tryz.prog 166 #[.agg #[.int .i64 first, gv, ov], .int .i64 g] U fun e w' => ∃ a c, e = .returned (.tuple #[.agg #[.slice a nX c], .int .i64 E]) ∧ Hid (FrsIn (fun g => U.heap.size ≤ g) w' (.slice a nX c) X) ∧ Below U.heap.size U w') := fun U hU => by
  rw [hnX, hX, hE]; exact storeGet_new first gv ov L O g U (hg.below hU) (ho.below hU) (by omega)
 have HIN : Hid (E = 0 → ∃ j : Nat, f = j ∧ j < nX ∧ K = mayB m (frAt X j).time upto) := fun h => by
  obtain ⟨j, h1, h2⟩ := hin (by rw [← hE]; exact h)
  refine ⟨j, h1, by rw [hnX, hX]; exact h2, ?_⟩
  rw [hK, hX]; unfold okB; rw [← hE, h, h1]; simp
 have HX6 : Hid (E = 0 → nX ≤ 6) := fun h => by
  rw [hE] at h
  rw [hnX, hX]; exact getG_len h
 have HBAD : Hid (¬ E = 0 → K = false) := fun h => by rw [hK]; unfold okB; rw [← hE]; simp [h]
 have HM : Hid (Blk w M #[.int .i64 m, .int .i64 g, .int .i64 f, .int .i64 first, gv, ov] 201) := hM
 have HNX : Hid (nX = X.length) := hnX
 rw [← hK, ← hX]
 clear hE hX hnX hK hg ho hln hlo hM hin
 subst eg eo
 have hMw := HM.out.lt
 go_enter Tryz.func149, Tryz.ntmps149
 go_wp2_with fail
 obtain ⟨w0, hw0⟩ : ∃ w0, w0 = w.alloc (.cells #[.int .i64 0, .bool false, .slice none 0 0] 98) := ⟨_, rfl⟩
 have B0 : Below w.heap.size w w0 := by rw [hw0]; exact (Below.refl _ _).alloc (Nat.le_refl _) _
 have HM0 : Hid (Blk w0 M #[.int .i64 m, .int .i64 g, .int .i64 f, .int .i64 first, .slice ga ln gc, .slice oa lo oc] 201) := HM.out.below B0 hMw
 have HR0 : Hid (Blk w0 w.heap.size #[.int .i64 0, .bool false, .slice none 0 0] 98) := Blk.newE hw0
 have z0 : w0.heap.size = w.heap.size + 1 := by rw [hw0]; simp
 have HGET0 : Hid (∀ U : World, Below w0.heap.size w0 U → Calls Tryz.prog 166 #[.agg #[.int .i64 first, .slice ga ln gc, .slice oa lo oc], .int .i64 g] U fun e w' => ∃ a c, e = .returned (.tuple #[.agg #[.slice a nX c], .int .i64 E]) ∧ Hid (FrsIn (fun g => U.heap.size ≤ g) w' (.slice a nX c) X) ∧ Below U.heap.size U w') := fun U hU => HGET.out U (B0.trans (hU.mono B0.size))
 have HB0 : Hid (Below w.heap.size w w0) := B0
 rw [← hw0]
 clear hw0 B0 HGET
 refine region_main (by kernel_rfl) (by kernel_rfl) [.quiet (.pointer (some ⟨M, 0, none⟩)), .quiet (.pointer (some ⟨M, 0, none⟩)), .quiet (.pointer (some ⟨M, 3, none⟩)), .quiet (.agg #[.int .i64 first, .slice ga ln gc, .slice oa lo oc]), .quiet (.pointer (some ⟨M, 0, none⟩)), .quiet (.pointer (some ⟨M, 0, none⟩)), .quiet (.pointer (some ⟨M, 0, none⟩)), .quiet (.pointer (some ⟨M, 1, none⟩)), .quiet (.int .i64 g), .main, .fin (fun r => r), .fin (exT 0), .fin (exT 1), .box 30 #[.slice none 0 0], .put 13 (fun r => aggC (exT 0 r)), .fin (exT 1)] 9 (by kernel_rfl)
  (fun S r w' => ∃ a1 c1, r = .tuple #[.agg #[.slice a1 nX c1], .int .i64 E] ∧ FrsIn (fun g => S g ∧ w0.heap.size ≤ g) w' (.slice a1 nX c1) X) ?loc ?step ?fin
 case loc =>
  rintro S r w1 w3 ⟨a1, c1, rfl, h1⟩ hs hsame
  exact ⟨a1, c1, rfl, h1.to ⟨hs, fun g hg hS => hsame g hS.1 hg⟩ (fun _ _ h => h)⟩
 case step =>
  intro i o ho a' w' r hb hfree hvals
  have f0 : a'.eval (.tmp 0) = .pointer (some ⟨M, 0, none⟩) := (hfree 0 (by kernel_rfl)).trans rfl
  obtain ⟨y0, y1, y2, y3, y4, y5⟩ := (HM0.out.below hb HM0.out.lt).sixw
  match i, ho with
  | 0, ho =>
   simp at ho; subst ho
   show (execOp a'.eval _).run _ w' = .ok (.value _) w'
   generalize a'.eval = ρ at *
   simp [execOp, go_sem, f0]
  | 1, ho =>
   simp at ho; subst ho
   have e10 : a'.eval (.tmp 10) = .pointer (some ⟨M, 0, none⟩) := hvals 0 _ (by kernel_rfl) rfl
   show (execOp a'.eval _).run _ w' = .ok (.value _) w'
   generalize a'.eval = ρ at *
   simp [execOp, go_sem, e10]
  | 2, ho =>
   simp at ho; subst ho
   have e11 : a'.eval (.tmp 11) = .pointer (some ⟨M, 0, none⟩) := hvals 1 _ (by kernel_rfl) rfl
   show (execOp a'.eval _).run _ w' = .ok (.value _) w'
   generalize a'.eval = ρ at *
   simp [execOp, go_sem, e11]
  | 3, ho =>
   simp at ho; subst ho
   have e12 : a'.eval (.tmp 12) = .pointer (some ⟨M, 3, none⟩) := hvals 2 _ (by kernel_rfl) rfl
   show (execOp a'.eval _).run _ w' = .ok (.value _) w'
   generalize a'.eval = ρ at *
   simp [execOp, go_sem, e12, y3, y4, y5]
  | 4, ho =>
   simp at ho; subst ho
   show (execOp a'.eval _).run _ w' = .ok (.value _) w'
   generalize a'.eval = ρ at *
   simp [execOp, go_sem, f0]
  | 5, ho =>
   simp at ho; subst ho
   have e14 : a'.eval (.tmp 14) = .pointer (some ⟨M, 0, none⟩) := hvals 4 _ (by kernel_rfl) rfl
   show (execOp a'.eval _).run _ w' = .ok (.value _) w'
   generalize a'.eval = ρ at *
   simp [execOp, go_sem, e14]
  | 6, ho =>
   simp at ho; subst ho
   have e15 : a'.eval (.tmp 15) = .pointer (some ⟨M, 0, none⟩) := hvals 5 _ (by kernel_rfl) rfl
   show (execOp a'.eval _).run _ w' = .ok (.value _) w'
   generalize a'.eval = ρ at *
   simp [execOp, go_sem, e15]
  | 7, ho =>
   simp at ho; subst ho
   have e16 : a'.eval (.tmp 16) = .pointer (some ⟨M, 0, none⟩) := hvals 6 _ (by kernel_rfl) rfl
   show (execOp a'.eval _).run _ w' = .ok (.value _) w'
   generalize a'.eval = ρ at *
   simp [execOp, go_sem, e16]
  | 8, ho =>
   simp at ho; subst ho
   have e17 : a'.eval (.tmp 17) = .pointer (some ⟨M, 1, none⟩) := hvals 7 _ (by kernel_rfl) rfl
   show (execOp a'.eval _).run _ w' = .ok (.value _) w'
   generalize a'.eval = ρ at *
   simp [execOp, go_sem, e17, y1]
  | 9, ho =>
   simp at ho; subst ho
   have e13 : a'.eval (.tmp 13) = .agg #[.int .i64 first, .slice ga ln gc, .slice oa lo oc] := hvals 3 _ (by kernel_rfl) rfl
   have e18 : a'.eval (.tmp 18) = .int .i64 g := hvals 8 _ (by kernel_rfl) rfl
   have ef : a'.eval (.func 166) = .func (.func 166) #[] #[] := rfl
   show ∃ f args, (execOp a'.eval _).run _ w' = .ok (.enter f args) w' ∧ _
   generalize a'.eval = ρ at *
   refine ⟨166, #[.agg #[.int .i64 first, .slice ga ln gc, .slice oa lo oc], .int .i64 g], by simp [execOp, go_sem, e13, e18, ef], ?_⟩
   refine (HGET0.out w' hb).mono ?_
   rintro e w'' ⟨a1, c1, rfl, h1, hb4⟩
   exact ⟨_, rfl, ⟨a1, c1, rfl, h1.out.mono (fun g hl hg => ⟨⟨hl, .inr hg⟩, (by have := hb.size; omega)⟩)⟩, hb4⟩
  | 10, ho =>
   simp at ho; subst ho
   have e19 : a'.eval (.tmp 19) = r := hvals 9 _ (by kernel_rfl) rfl
   show ∀ S, _ → (execOp a'.eval _).run _ w' = .ok (.value _) w'
   rintro S ⟨a1, c1, rfl, _⟩
   try simp only [exT] at e19
   generalize a'.eval = ρ at *
   simp [execOp, go_sem, e19]
  | 11, ho =>
   simp at ho; subst ho
   have e9 : a'.eval (.tmp 9) = r := hvals 10 _ (by kernel_rfl) rfl
   show ∀ S, _ → (execOp a'.eval _).run _ w' = .ok (.value _) w'
   rintro S ⟨a1, c1, rfl, _⟩
   try simp only [exT] at e9
   generalize a'.eval = ρ at *
   simp [execOp, go_sem, e9, exT]
  | 12, ho =>
   simp at ho; subst ho
   have e9 : a'.eval (.tmp 9) = r := hvals 10 _ (by kernel_rfl) rfl
   show ∀ S, _ → (execOp a'.eval _).run _ w' = .ok (.value _) w'
   rintro S ⟨a1, c1, rfl, _⟩
   try simp only [exT] at e9
   generalize a'.eval = ρ at *
   simp [execOp, go_sem, e9, exT]
  | 13, ho =>
   simp at ho; subst ho
   show (execOp a'.eval _).run _ w' = .ok (.value _) _
   generalize a'.eval = ρ at *
   simp [execOp, go_sem]
  | 14, ho =>
   simp at ho; subst ho
   have e20 : a'.eval (.tmp 20) = (exT 0) r := hvals 11 _ (by kernel_rfl) rfl
   show ∀ S, _ → ∀ t z g C, _ → _ → _ → _ → ∃ w'', (execOp a'.eval _).run _ w' = .ok .skip w'' ∧ _
   rintro S ⟨a1, c1, rfl, _⟩ t z g C hz hC hs (eb : a'.eval (.tmp 6) = _)
   cases hz
   obtain ⟨u0, q0⟩ := cells1 hC hs
   have p0 := hC.free 0
   obtain ⟨m1, m2, m3⟩ := set1 hC hs (.slice a1 nX c1)
   simp only [exT] at e20
   generalize a'.eval = ρ at *
   exact ⟨_, by simp [execOp, go_sem, e20, eb, q0, p0], m1, m2, rfl, m3, rfl, rfl, rfl⟩
  | 15, ho =>
   simp at ho; subst ho
   have e21 : a'.eval (.tmp 21) = (exT 1) r := hvals 12 _ (by kernel_rfl) rfl
   show ∀ S, _ → (execOp a'.eval _).run _ w' = .ok (.value _) w'
   rintro S ⟨a1, c1, rfl, _⟩
   try simp only [exT] at e21
   generalize a'.eval = ρ at *
   simp [execOp, go_sem, e21, exT]
  | i + 16, ho => simp at ho
 case fin =>
  rintro r gs S W hb ⟨a1, c1, rfl, h1⟩ hS hbox hap
  obtain ⟨p1, p2, C, p3, p4⟩ := hbox 13 _ _ (by decide) rfl
  have p5 := p4 14 _ (by decide) rfl
  subst p5
  have KP : Hid (Blk W (gs 13) #[.slice a1 nX c1] 30) := p3
  simp only [putK, Kd.out, exT, Act.put, List.setIfInBounds_toArray, List.set_cons_succ, List.set_cons_zero, List.getElem?_toArray, List.getElem?_cons_zero, List.getElem?_cons_succ, Option.getD_some]
  obtain ⟨p, hp⟩ : ∃ p, p = gs 13 := ⟨_, rfl⟩
  rw [← hp] at KP p1
  rw [← hp]
  have HBW : Hid (Below w0.heap.size w0 W) := hb
  have H1 : Hid (FrsIn (fun b => S b ∧ w0.heap.size ≤ b) W (.slice a1 nX c1) X) := h1
  have HPS : Hid (¬ S p) := (by rw [hp]; exact p2)
  have HSW : Hid (∀ g, S g → g < W.heap.size) := hS
  clear hp h1 hS hbox hap p2 p3 p4 hb
  have KM : Hid (Blk W M #[.int .i64 m, .int .i64 g, .int .i64 f, .int .i64 first, .slice ga ln gc, .slice oa lo oc] 201) := HM0.out.below HBW.out HM0.out.lt
  have KR : Hid (Blk W w.heap.size #[.int .i64 0, .bool false, .slice none 0 0] 98) := HR0.out.below HBW.out HR0.out.lt
  have HBB : Hid (Below w.heap.size w W) := HB0.out.trans (HBW.out.mono HB0.out.size)
  have HKP : Hid (Kept [M] w W) := ⟨HBB.out.os, HBB.out.tape, HBB.out.output, HBB.out.size, fun j hj _ => HBB.out.block j hj⟩
  have hpw : w.heap.size + 1 ≤ p := by omega
  obtain ⟨y0, y1, y2, y3, y4, y5⟩ := KM.out.sixw
  obtain ⟨r0, r1, r2⟩ := KR.out.three
  have x0 := KP.out.one
  have fd : ∀ k j, (W.drewN k).frozen? ⟨w.heap.size, j, none⟩ = false := fun k j => (KR.out.drewN k).free j
  have HD : Hid (∀ k, Below W.heap.size W (W.drewN k)) := fun k => below_drewN (Below.refl _ _) k
  clear HGET0
  have HFIN : Hid (∀ (F : Int) (t : Int) (k : Bool) (pv : Value) (Y V : World), Kept [M] w Y → Blk Y M #[.int .i64 m, .int .i64 g, .int .i64 F, .int .i64 first, .slice ga ln gc, .slice oa lo oc] 201 → Blk Y w.heap.size #[.int .i64 0, .bool false, .slice none 0 0] 98 → V = ((Y.setCell ⟨w.heap.size, 0, none⟩ (.int .i64 t)).setCell ⟨w.heap.size, 1, none⟩ (.bool k)).setCell ⟨w.heap.size, 2, none⟩ pv → Blk V M #[.int .i64 m, .int .i64 g, .int .i64 F, .int .i64 first, .slice ga ln gc, .slice oa lo oc] 201 ∧ Blk V w.heap.size #[.int .i64 t, .bool k, pv] 98 ∧ Kept [M] w V ∧ V.heap.size = Y.heap.size ∧ ∀ b, b ≠ w.heap.size → V.heap[b]? = Y.heap[b]?) := fun F t k pv Y V h1 h2 h3 hV => by
   have ho : ∀ b, b ≠ w.heap.size → V.heap[b]? = Y.heap[b]? := fun b hb => by
    rw [hV, Below.heap_setCell _ _ _ _ (by exact hb), Below.heap_setCell _ _ _ _ (by exact hb), Below.heap_setCell _ _ _ _ (by exact hb)]
   refine ⟨(ho M (by omega)).trans h2, by rw [hV]; exact ((h3.set 0 (.int .i64 t)).set 1 (.bool k)).set 2 pv, ?_, by rw [hV]; simp, ho⟩
   rw [hV]; exact ((h1.setNew (Nat.le_refl _) _).setNew (Nat.le_refl _) _).setNew (Nat.le_refl _) _
  by_cases hE : E = 0
  ·obtain ⟨j, hj, hjn, hKK⟩ := HIN.out hE
   obtain ⟨ao', c', eu, _, _, hc⟩ := H1.out
   rw [← HNX.out] at eu
   injection eu with eu eu2 eu3
   clear eu2
   subst eu eu3
   obtain ⟨b, off, e1, hb, hSb, pv, c0, c1', c2, hps⟩ := hc j (by rw [← HNX.out]; exact hjn)
   obtain ⟨x, hx⟩ : ∃ x, x = frAt X j := ⟨_, rfl⟩
   rw [show X[j]?.getD Fr.zero = x from hx.symm] at c0 c1' hps
   rw [← hx] at hKK
   obtain ⟨pa, pc, ep⟩ := hps.1.len
   obtain ⟨pn, hpn⟩ : ∃ n, n = x.parts.length := ⟨_, rfl⟩
   rw [← hpn] at ep
   have HXE : Hid (x = frAt X j) := hx
   have HPS2 : Hid (StrsIn (fun b => S b ∧ w0.heap.size ≤ b) W pv x.parts) := hps
   have HC0 : Hid (∀ U, Below W.heap.size W U → U.cell? ⟨b, off + j * 3, none⟩ = some (.int .i64 x.time) ∧ U.cell? ⟨b, off + j * 3 + 1, none⟩ = some (.bool x.key) ∧ U.cell? ⟨b, off + j * 3 + 2, none⟩ = some pv) := fun U h => ⟨(h.cell (p := ⟨b, off + j * 3, none⟩) hb).trans c0, (h.cell (p := ⟨b, off + j * 3 + 1, none⟩) hb).trans c1', (h.cell (p := ⟨b, off + j * 3 + 2, none⟩) hb).trans c2⟩
   have cF : ∀ d os, Calls Tryz.prog 168 #[.pointer (some ⟨M, 0, none⟩), .agg #[.int .i64 x.time, .bool x.key, pv], .int .i64 upto] (grow (redrawn W d) os) fun e w'' => e = .returned (.bool K) ∧ ∃ p : Regrown, w'' = grow (redrawn W p.d) p.os := fun d os =>
    Calls.regrown_of (by
     rw [hKK]
     exact mayHave_any M m g f first _ _ x.time x.key pv upto _ ⟨_, _, _, ep⟩ (KM.out.below (below_regrown W d os) KM.out.lt))
   have z0' := cell_regrown x0
   have z1' := cell_regrown y2
   have z2' := cell_regrown c0
   have z3' := cell_regrown c1'
   have z4' := cell_regrown c2
   have HSB : Hid (∀ b, (S b ∧ w0.heap.size ≤ b) → w.heap.size + 1 ≤ b ∧ b ≠ M) := fun b h => ⟨by omega, by omega⟩
   have hjb : j ≤ 6 := by have := HX6.out hE; omega
   have hji : (j : Int) < (nX : Int) := by omega
   clear hc hps hx hpn hKK HIN HBAD
   subst e1 ep hE hj
   clear c0 c1' c2 x0 y2
   go_wp2_with fail
   refine wp_region_quiet_below (by kernel_rfl) (by kernel_rfl) ?_
   repeat (quiet_step (exact cF _ _))
   refine wpQuiet_nil ?_
   intro _ hw'
   obtain ⟨⟨dq, osq⟩, hw''⟩ := hw'
   subst hw''
   have bR := below_regrown W dq osq
   obtain ⟨V, hV⟩ : ∃ V, V = grow (redrawn W dq) osq := ⟨_, rfl⟩
   rw [← hV] at bR
   rw [← hV]
   clear hV cF z0' z1' z2' z3' z4' y0 y1 y3 y4 y5 r0 r1 r2 fd
   have KMV := KM.out.below bR KM.out.lt
   have KRV := KR.out.below bR KR.out.lt
   have KPV := KP.out.below bR KP.out.lt
   have HPV : Hid (StrsIn (fun b => S b ∧ w0.heap.size ≤ b) V (.slice pa pn pc) x.parts) := HPS2.out.below bR
   have HKV : Hid (Kept [M] w V) := HKP.out.below bR
   have hpl := KP.out.lt
   have hML := KMV.lt
   have hRL := KRV.lt
   have hVW := bR.size
   have hpV : p < V.heap.size := by omega
   have hbV : b < V.heap.size := by omega
   obtain ⟨o0, o1, o2, o3, o4, o5⟩ := KMV.sixw
   obtain ⟨r0, r1, r2⟩ := KRV.three
   have x0 := KPV.one
   obtain ⟨c0, c1', c2⟩ := HC0.out V bR
   have fM := KMV.free
   have fR := KRV.free
   cases K
   ·have HKM : Hid (Blk V M #[.int .i64 m, .int .i64 g, .int .i64 j, .int .i64 first, .slice ga ln gc, .slice oa lo oc] 201) := KMV
    have HKR : Hid (Blk V w.heap.size #[.int .i64 0, .bool false, .slice none 0 0] 98) := KRV
    clear KMV KRV KPV bR
    go_wp2_with fail
    obtain ⟨n1, n2, n3, _, _⟩ := HFIN.out j 0 false (.slice none 0 0) V _ HKV.out HKM.out HKR.out rfl
    obtain ⟨u0, u1, u2⟩ := n2.three
    exact bodyPost_ret (v := .tuple #[.agg #[.int .i64 0, .bool false, .slice none 0 0], .bool false]) (by simp [results, Tryz.results149, go_sem, u0, u1, u2]) rfl ⟨Fr.zero, .slice none 0 0, rfl, rfl, StrsIn.nil _ _, n1, n3⟩
   ·have HKM : Hid (Blk V M #[.int .i64 m, .int .i64 g, .int .i64 j, .int .i64 first, .slice ga ln gc, .slice oa lo oc] 201) := KMV
    have HKR : Hid (Blk V w.heap.size #[.int .i64 0, .bool false, .slice none 0 0] 98) := KRV
    clear KMV KRV KPV
    go_wp2_with fail
    go_region
    obtain ⟨Y0, hY0⟩ : ∃ Y0, Y0 = (V.alloc (.cells #[.int .i64 x.time, .bool x.key, .slice pa pn pc] 98)).drew := ⟨_, rfl⟩
    have bY : Below V.heap.size V Y0 := by rw [hY0]; exact Below.drew ((Below.refl _ _).alloc (Nat.le_refl _) _)
    have KY : Blk Y0 V.heap.size #[.int .i64 x.time, .bool x.key, .slice pa pn pc] 98 := by rw [hY0]; exact (Blk.new _ _ _).drew
    rw [← hY0]
    clear hY0 o0 o1 o2 o3 o4 o5 r0 r1 r2 x0 c0 c1' c2 fM fR
    have M0 := HKM.out.below bY HKM.out.lt
    have R0 := HKR.out.below bY HKR.out.lt
    have P0 : Hid (StrsIn (fun b => S b ∧ w0.heap.size ≤ b) Y0 (.slice pa pn pc) x.parts) := HPV.out.below bY
    have Q0 : Hid (Kept [M] w Y0) := HKV.out.below bY
    obtain ⟨o0, o1, o2, o3, o4, o5⟩ := M0.sixw
    obtain ⟨r0, r1, r2⟩ := R0.three
    obtain ⟨q0, q1, q2⟩ := KY.three
    have fM := M0.free
    have fR := R0.free
    have lM := M0.lt
    have lR := R0.lt
    have lY := KY.lt
    have hne1 : ¬ M = V.heap.size := by omega
    have hne2 : ¬ V.heap.size = M := by omega
    have hne3 : ¬ w.heap.size = M := by omega
    have hne4 : ¬ M = w.heap.size := by omega
    have hne5 : ¬ V.heap.size = w.heap.size := by omega
    have hne6 : ¬ w.heap.size = V.heap.size := by omega
    obtain ⟨Y1, hY1⟩ : ∃ Y1, Y1 = Y0.setCell ⟨M, 2, none⟩ (.int .i64 (j + 1)) := ⟨_, rfl⟩
    have M1 : Blk Y1 M #[.int .i64 m, .int .i64 g, .int .i64 (j + 1), .int .i64 first, .slice ga ln gc, .slice oa lo oc] 201 := by
     have := M0.set 2 (.int .i64 (j + 1))
     rw [hY1]; simpa using this
    have R1 : Blk Y1 w.heap.size #[.int .i64 0, .bool false, .slice none 0 0] 98 := by rw [hY1]; exact R0.other (by simp; omega) _
    have Q1 : Kept [M] w Y1 := by rw [hY1]; exact Q0.out.setCell (by simp) _
    have hY1o : ∀ b, b ≠ M → Y1.heap[b]? = Y0.heap[b]? := fun b hb => by rw [hY1]; exact Below.heap_setCell _ _ _ _ hb
    have hY1s : Y1.heap.size = Y0.heap.size := by rw [hY1]; simp
    obtain ⟨Z, hZ⟩ : ∃ Z, Z = ((Y1.setCell ⟨w.heap.size, 0, none⟩ (.int .i64 x.time)).setCell ⟨w.heap.size, 1, none⟩ (.bool x.key)).setCell ⟨w.heap.size, 2, none⟩ (.slice pa pn pc) := ⟨_, rfl⟩
    obtain ⟨n1, n2, n3, n4, n5⟩ := HFIN.out (j + 1) x.time x.key (.slice pa pn pc) Y1 Z Q1 M1 R1 hZ
    have PZ : Hid (StrsIn (fun b => w.heap.size ≤ b) Z (.slice pa pn pc) x.parts) := P0.out.to ⟨by omega, fun b hb hS => by
     have hh := HSB.out b hS
     rw [n5 b (by omega), hY1o b (by omega)]⟩ (fun b _ hS => by have := HSB.out b hS; omega)
    have HN : Hid (Blk Z M #[.int .i64 m, .int .i64 g, .int .i64 (j + 1), .int .i64 first, .slice ga ln gc, .slice oa lo oc] 201 ∧ Blk Z w.heap.size #[.int .i64 x.time, .bool x.key, .slice pa pn pc] 98 ∧ Kept [M] w Z) := ⟨n1, n2, n3⟩
    rw [hY1] at hZ
    clear n1 n2 n3 n4 n5 M1 R1 Q1 hY1o hY1s M0 R0 KY bY hY1
    go_wp2_with fail
    rw [← hZ]
    obtain ⟨u0, u1, u2⟩ := HN.out.2.1.three
    exact bodyPost_ret (v := .tuple #[.agg #[.int .i64 x.time, .bool x.key, .slice pa pn pc], .bool true]) (by simp [results, Tryz.results149, go_sem, u0, u1, u2]) rfl ⟨x, .slice pa pn pc, rfl, HXE.out, PZ.out, HN.out.1, HN.out.2.2⟩
  ·have hK := HBAD.out hE
   have hEb : (E != 0) = true := by simpa using hE
   subst hK
   go_wp2_with fail
   go_quiet (fail)
   go_wp2_with fail
   obtain ⟨n1, n2, n3, _, _⟩ := HFIN.out f 0 false (.slice none 0 0) (W.drewN nq) _ (HKP.out.below (HD.out nq)) (KM.out.drewN nq) (KR.out.drewN nq) rfl
   obtain ⟨u0, u1, u2⟩ := n2.three
   exact bodyPost_ret (v := .tuple #[.agg #[.int .i64 0, .bool false, .slice none 0 0], .bool false]) (by simp [results, Tryz.results149, go_sem, u0, u1, u2]) rfl ⟨Fr.zero, .slice none 0 0, rfl, rfl, StrsIn.nil _ _, n1, n3⟩
def nxK (first : Int) (L : List (List Fr)) (O : List Fr) (m g f upto : Int) : Bool := decide (nxE first L O m g f upto = 0) && okB first L O m (plG first L O m g f) (plF first L O g f) upto
def nxM (first : Int) (L : List (List Fr)) (O : List Fr) (m g f upto : Int) : Int := if nxE first L O m g f upto = 0 then m else 0
def nxG (first : Int) (L : List (List Fr)) (O : List Fr) (m g f upto : Int) : Int := if nxE first L O m g f upto = 0 then (if nxK first L O m g f upto then plG first L O m g f else g) else 0
def nxF (first : Int) (L : List (List Fr)) (O : List Fr) (m g f upto : Int) : Int := if nxE first L O m g f upto = 0 then (if nxK first L O m g f upto then plF first L O g f + 1 else f) else 0
def nxX (first : Int) (L : List (List Fr)) (O : List Fr) (m g f upto : Int) : Fr := if nxK first L O m g f upto then frAt (getG first L O (plG first L O m g f)) (plF first L O g f).toNat else Fr.zero
def nxT (first : Int) (L : List (List Fr)) (O : List Fr) (m g f upto : Int) : Bool := nxK first L O m g f upto && plT first L O g f
theorem plG_bound {first : Int} {L : List (List Fr)} {O : List Fr} {m g f : Int} (hs : stchk first L O = 0) (hc : curE m g f = 0) : -1 ≤ plG first L O m g f ∧ plG first L O m g f ≤ 200000 := by
 obtain ⟨c1, c2, c3, c4, c5, c6⟩ := curE_zero.1 hc
 obtain ⟨q1, q2, q3, _⟩ := stchk_zero.1 hs
 have hl := allG_len L O q3
 have := seek_last hs
 unfold plG plS
 rw [this]
 repeat' split
 all_goals omega
set_option maxHeartbeats 8000000 in
set_option maxRecDepth 100000 in
theorem next_any (first : Int) (gv ov : Value) (L : List (List Fr)) (O : List Fr) (m g f upto : Int) (w : World) (hg : GrsIn (fun _ => True) w gv L) (ho : FrsIn (fun _ => True) w ov O) :
  Calls Tryz.prog 114 #[.agg #[.int .i64 first, gv, ov], .agg #[.int .i64 m, .int .i64 g, .int .i64 f], .int .i64 upto] w fun e w' => ∃ pv, e = .returned (.tuple #[.agg #[.int .i64 (nxM first L O m g f upto), .int .i64 (nxG first L O m g f upto), .int .i64 (nxF first L O m g f upto)], .agg #[.int .i64 (nxX first L O m g f upto).time, .bool (nxX first L O m g f upto).key, pv], .bool (nxK first L O m g f upto), .bool (nxT first L O m g f upto), .int .i64 (nxE first L O m g f upto)]) ∧ StrsIn (fun b => w.heap.size ≤ b) w' pv (nxX first L O m g f upto).parts ∧ Below w.heap.size w w' := by
 obtain ⟨ga, gc, eg, _, _⟩ := hg.len
 obtain ⟨oa, oc, eo, _, _⟩ := ho.len
 obtain ⟨ln, hln⟩ : ∃ n, n = L.length := ⟨_, rfl⟩
 obtain ⟨lo, hlo⟩ : ∃ n, n = O.length := ⟨_, rfl⟩
 rw [← hln] at eg
 rw [← hlo] at eo
 obtain ⟨E, hE⟩ : ∃ E, E = nxE first L O m g f upto := ⟨_, rfl⟩
 obtain ⟨PG, hPG⟩ : ∃ n, n = plG first L O m g f := ⟨_, rfl⟩
 obtain ⟨PF, hPF⟩ : ∃ n, n = plF first L O g f := ⟨_, rfl⟩
 obtain ⟨PT, hPT⟩ : ∃ n, n = plT first L O g f := ⟨_, rfl⟩
 obtain ⟨K, hK⟩ : ∃ n, n = okB first L O m PG PF upto := ⟨_, rfl⟩
 obtain ⟨rM, hrM⟩ : ∃ n, n = nxM first L O m g f upto := ⟨_, rfl⟩
 obtain ⟨rG, hrG⟩ : ∃ n, n = nxG first L O m g f upto := ⟨_, rfl⟩
 obtain ⟨rF, hrF⟩ : ∃ n, n = nxF first L O m g f upto := ⟨_, rfl⟩
 obtain ⟨rX, hrX⟩ : ∃ n, n = nxX first L O m g f upto := ⟨_, rfl⟩
 obtain ⟨rK, hrK⟩ : ∃ n, n = nxK first L O m g f upto := ⟨_, rfl⟩
 obtain ⟨rT, hrT⟩ : ∃ n, n = nxT first L O m g f upto := ⟨_, rfl⟩
 have hKK : rK = (decide (E = 0) && K) := by rw [hrK, hE, hK, hPG, hPF]; rfl
 have HBAD : Hid (¬ E = 0 → rM = 0 ∧ rG = 0 ∧ rF = 0 ∧ rX = Fr.zero ∧ rK = false ∧ rT = false) := fun h => by
  have k : nxK first L O m g f upto = false := by rw [← hrK, hKK, decide_eq_false h]; rfl
  rw [hE] at h
  refine ⟨by rw [hrM]; exact if_neg h, by rw [hrG]; exact if_neg h, by rw [hrF]; exact if_neg h, by rw [hrX]; unfold nxX; rw [k]; rfl, by rw [hrK, k], by rw [hrT]; unfold nxT; rw [k]; rfl⟩
 have HGOOD : Hid (E = 0 → rM = m ∧ (K = true → rG = PG ∧ rF = PF + 1 ∧ rX = frAt (getG first L O PG) PF.toNat ∧ rK = true ∧ rT = PT) ∧ (K = false → rG = g ∧ rF = f ∧ rX = Fr.zero ∧ rK = false ∧ rT = false)) := fun h => by
  have k : nxK first L O m g f upto = K := by rw [← hrK, hKK, decide_eq_true h]; rfl
  rw [hE] at h
  rw [hrM, hrG, hrF, hrX, hrK, hrT]
  unfold nxM nxG nxF nxX nxT
  rw [k, if_pos h, if_pos h, if_pos h, ← hPG, ← hPF, ← hPT]
  exact ⟨rfl, fun h => by rw [h]; exact ⟨rfl, rfl, rfl, rfl, rfl⟩, fun h => by rw [h]; exact ⟨rfl, rfl, rfl, rfl, rfl⟩⟩
 have HCK : Hid (∀ U : World, Below w.heap.size w U → Calls Tryz.prog 147 #[.agg #[.int .i64 first, gv, ov], .agg #[.int .i64 m, .int .i64 g, .int .i64 f], .int .i64 upto] U fun e w' => e = .returned (.int .i64 E) ∧ Below U.heap.size U w') := fun U hU => by
  rw [hE]; exact checkNext_any first gv ov L O m g f upto U (hg.below hU) (ho.below hU)
 have HFP : Hid (E = 0 → ∀ (M : Nat) (U : World), Below w.heap.size w U → Blk U M #[.int .i64 m, .int .i64 g, .int .i64 f, .int .i64 first, gv, ov] 201 → Calls Tryz.prog 148 #[.pointer (some ⟨M, 0, none⟩)] U fun e w' => e = .returned (.bool PT) ∧ Blk w' M #[.int .i64 m, .int .i64 PG, .int .i64 PF, .int .i64 first, gv, ov] 201 ∧ Kept [M] U w') := fun h M U hU hM => by
  obtain ⟨h1, h2, _⟩ := nxE_zero.1 (by rw [← hE]; exact h)
  obtain ⟨c1, c2, c3, c4, c5, c6⟩ := curE_zero.1 h2
  rw [hPT, hPG, hPF]; exact findPlace_any M m g f first gv ov L O U hM (hg.below hU) (ho.below hU) (by omega) (by omega)
 have HST : Hid (E = 0 → ∀ (M : Nat) (U : World), w.heap.size ≤ M → Below w.heap.size w U → Blk U M #[.int .i64 m, .int .i64 PG, .int .i64 PF, .int .i64 first, gv, ov] 201 → Calls Tryz.prog 149 #[.pointer (some ⟨M, 0, none⟩), .int .i64 upto] U fun e w' => ∃ (x : Fr) (pv : Value), e = .returned (.tuple #[.agg #[.int .i64 x.time, .bool x.key, pv], .bool K]) ∧ x = (if K then frAt (getG first L O PG) PF.toNat else Fr.zero) ∧ StrsIn (fun b => U.heap.size ≤ b) w' pv x.parts ∧ Blk w' M #[.int .i64 m, .int .i64 PG, .int .i64 (if K then PF + 1 else PF), .int .i64 first, gv, ov] 201 ∧ Kept [M] U w') := fun h M U _ hU hM => by
  obtain ⟨h1, h2, _⟩ := nxE_zero.1 (by rw [← hE]; exact h)
  obtain ⟨b1, b2⟩ := plG_bound h1 h2
  have hin := (next_spec upto h1 h2).1
  rw [← hPG] at b1 b2 hin
  rw [hK]
  refine step_any M m PG PF first gv ov L O upto U hM (hg.below hU) (ho.below hU) (by omega) (by omega) (fun he => ?_)
  obtain ⟨k, j, e1, e2, e3, e4⟩ := hin he
  rw [← hPF] at e3
  obtain ⟨_, u2⟩ := getE_in h1 e1 e2
  exact ⟨j, e3, by rw [u2]; exact e4⟩
 rw [← hE, ← hrM, ← hrG, ← hrF, ← hrX, ← hrK, ← hrT]
 have HGR : Hid (Stay w (fun U => GrsIn (fun _ => True) U gv L ∧ FrsIn (fun _ => True) U ov O)) := hg.stay.and ho.stay
 clear hE hPG hPF hPT hK hrM hrG hrF hrX hrK hrT hKK hg ho hln hlo
 subst eg eo
 go_enter Tryz.func114, Tryz.ntmps114
 go_wp2_with fail
 obtain ⟨W0, hW0⟩ : ∃ W0, W0 = (((w.alloc (.cells #[.int .i64 first, .slice ga ln gc, .slice oa lo oc] 32)).alloc (.cells #[.int .i64 m, .int .i64 g, .int .i64 f] 36)).alloc (.cells #[.int .i64 0, .int .i64 0, .int .i64 0] 36)).alloc (.cells #[.int .i64 0, .bool false, .slice none 0 0] 98) := ⟨_, rfl⟩
 have HS0 : Hid (Stay W0 (fun U => (Blk U w.heap.size #[.int .i64 first, .slice ga ln gc, .slice oa lo oc] 32 ∧ Blk U (w.heap.size + 1) #[.int .i64 m, .int .i64 g, .int .i64 f] 36) ∧ (Blk U (w.heap.size + 1 + 1) #[.int .i64 0, .int .i64 0, .int .i64 0] 36 ∧ Blk U (w.heap.size + 1 + 1 + 1) #[.int .i64 0, .bool false, .slice none 0 0] 98) ∧ Below w.heap.size w U)) := by
  have hb : Below w.heap.size w W0 := by rw [hW0]; exact ((((Below.refl _ _).alloc (Nat.le_refl _) _).alloc (by simp) _).alloc (by simp; omega) _).alloc (by simp; omega) _
  have k0 : Blk W0 w.heap.size #[.int .i64 first, .slice ga ln gc, .slice oa lo oc] 32 := by rw [hW0]; exact (((Blk.new _ _ _).alloc _).alloc _).alloc _
  have k1 : Blk W0 (w.heap.size + 1) #[.int .i64 m, .int .i64 g, .int .i64 f] 36 := by
   have := Blk.new (w.alloc (.cells #[.int .i64 first, .slice ga ln gc, .slice oa lo oc] 32)) #[.int .i64 m, .int .i64 g, .int .i64 f] 36
   simp only [World.size_alloc] at this
   rw [hW0]; exact (this.alloc _).alloc _
  have k2 : Blk W0 (w.heap.size + 1 + 1) #[.int .i64 0, .int .i64 0, .int .i64 0] 36 := by
   have := Blk.new ((w.alloc (.cells #[.int .i64 first, .slice ga ln gc, .slice oa lo oc] 32)).alloc (.cells #[.int .i64 m, .int .i64 g, .int .i64 f] 36)) #[.int .i64 0, .int .i64 0, .int .i64 0] 36
   simp only [World.size_alloc] at this
   rw [hW0]; exact this.alloc _
  have k3 : Blk W0 (w.heap.size + 1 + 1 + 1) #[.int .i64 0, .bool false, .slice none 0 0] 98 := by
   have := Blk.newE hW0
   simp only [World.size_alloc] at this
   exact this
  exact (k0.stay.and k1.stay).and ((k2.stay.and k3.stay).and (below_stay hb hb.size))
 rw [← hW0]
 clear hW0
 refine (HCK.out _ HS0.out.now.2.2).mono ?_
 rintro e w1 ⟨rfl, b1⟩
 have HS1 := Stay.go HS0 b1
 clear b1 HS0 HCK
 have hend : ∀ (Y V : World) (c0 c1 c2 : Int) (t : Int) (k : Bool) (pv : Value), Below w.heap.size w Y → Blk Y (w.heap.size + 1 + 1) #[.int .i64 0, .int .i64 0, .int .i64 0] 36 → Blk Y (w.heap.size + 1 + 1 + 1) #[.int .i64 0, .bool false, .slice none 0 0] 98 → V = (((((Y.setCell ⟨w.heap.size + 1 + 1, 0, none⟩ (.int .i64 c0)).setCell ⟨w.heap.size + 1 + 1, 1, none⟩ (.int .i64 c1)).setCell ⟨w.heap.size + 1 + 1, 2, none⟩ (.int .i64 c2)).setCell ⟨w.heap.size + 1 + 1 + 1, 0, none⟩ (.int .i64 t)).setCell ⟨w.heap.size + 1 + 1 + 1, 1, none⟩ (.bool k)).setCell ⟨w.heap.size + 1 + 1 + 1, 2, none⟩ pv → Blk V (w.heap.size + 1 + 1) #[.int .i64 c0, .int .i64 c1, .int .i64 c2] 36 ∧ Blk V (w.heap.size + 1 + 1 + 1) #[.int .i64 t, .bool k, pv] 98 ∧ Below w.heap.size w V ∧ V.heap.size = Y.heap.size ∧ ∀ b, b ≠ w.heap.size + 1 + 1 → b ≠ w.heap.size + 1 + 1 + 1 → V.heap[b]? = Y.heap[b]? := fun Y V c0 c1 c2 t k pv h1 h2 h3 hV => by
  refine ⟨?_, ?_, ?_, by rw [hV]; simp, fun b hb1 hb2 => ?_⟩
  ·rw [hV]
   exact (((((h2.set 0 (.int .i64 c0)).set 1 (.int .i64 c1)).set 2 (.int .i64 c2)).other (by simp) _).other (by simp) _).other (by simp) _
  ·rw [hV]
   exact (((((h3.other (by simp) _).other (by simp) _).other (by simp) _).set 0 (.int .i64 t)).set 1 (.bool k)).set 2 pv
  ·rw [hV]
   exact (((((h1.setCell (by simp; omega) _).setCell (by simp; omega) _).setCell (by simp; omega) _).setCell (by simp; omega) _).setCell (by simp; omega) _).setCell (by simp; omega) _
  ·rw [hV, Below.heap_setCell _ _ _ _ (by exact hb2), Below.heap_setCell _ _ _ _ (by exact hb2), Below.heap_setCell _ _ _ _ (by exact hb2), Below.heap_setCell _ _ _ _ (by exact hb1), Below.heap_setCell _ _ _ _ (by exact hb1), Below.heap_setCell _ _ _ _ (by exact hb1)]
 have HEND : Hid (∀ (Y V : World) (c0 c1 c2 : Int) (t : Int) (k : Bool) (pv : Value), Below w.heap.size w Y → Blk Y (w.heap.size + 1 + 1) #[.int .i64 0, .int .i64 0, .int .i64 0] 36 → Blk Y (w.heap.size + 1 + 1 + 1) #[.int .i64 0, .bool false, .slice none 0 0] 98 → V = (((((Y.setCell ⟨w.heap.size + 1 + 1, 0, none⟩ (.int .i64 c0)).setCell ⟨w.heap.size + 1 + 1, 1, none⟩ (.int .i64 c1)).setCell ⟨w.heap.size + 1 + 1, 2, none⟩ (.int .i64 c2)).setCell ⟨w.heap.size + 1 + 1 + 1, 0, none⟩ (.int .i64 t)).setCell ⟨w.heap.size + 1 + 1 + 1, 1, none⟩ (.bool k)).setCell ⟨w.heap.size + 1 + 1 + 1, 2, none⟩ pv → Blk V (w.heap.size + 1 + 1) #[.int .i64 c0, .int .i64 c1, .int .i64 c2] 36 ∧ Blk V (w.heap.size + 1 + 1 + 1) #[.int .i64 t, .bool k, pv] 98 ∧ Below w.heap.size w V ∧ V.heap.size = Y.heap.size ∧ ∀ b, b ≠ w.heap.size + 1 + 1 → b ≠ w.heap.size + 1 + 1 + 1 → V.heap[b]? = Y.heap[b]?) := hend
 clear hend
 by_cases hE : E = 0
 case neg =>
  have HZ : Hid (rM = 0 ∧ rG = 0 ∧ rF = 0 ∧ rX = Fr.zero ∧ rK = false ∧ rT = false) := HBAD.out hE
  have hEb : (E != 0) = true := by simpa using hE
  obtain ⟨j0, j1, j2⟩ := HS1.out.now.2.1.1.three
  obtain ⟨i0, i1, i2⟩ := HS1.out.now.2.1.2.three
  have fj := HS1.out.now.2.1.1.free
  have fi := HS1.out.now.2.1.2.free
  have lj := HS1.out.now.2.1.1.lt
  have li := HS1.out.now.2.1.2.lt
  obtain ⟨V, hV⟩ : ∃ V, V = (((((w1.setCell ⟨w.heap.size + 1 + 1, 0, none⟩ (.int .i64 0)).setCell ⟨w.heap.size + 1 + 1, 1, none⟩ (.int .i64 0)).setCell ⟨w.heap.size + 1 + 1, 2, none⟩ (.int .i64 0)).setCell ⟨w.heap.size + 1 + 1 + 1, 0, none⟩ (.int .i64 0)).setCell ⟨w.heap.size + 1 + 1 + 1, 1, none⟩ (.bool false)).setCell ⟨w.heap.size + 1 + 1 + 1, 2, none⟩ (.slice none 0 0) := ⟨_, rfl⟩
  have HV : Hid _ := HEND.out w1 V 0 0 0 0 false (.slice none 0 0) HS1.out.now.2.2 HS1.out.now.2.1.1 HS1.out.now.2.1.2 hV
  clear HFP HST HGOOD HBAD HEND
  go_wp2_with fail
  rw [← hV]
  obtain ⟨n1, n2, n3, _, _⟩ := HV.out
  obtain ⟨e1, e2, e3, e4, e5, e6⟩ := HZ.out
  rw [e1, e2, e3, e4, e5, e6]
  obtain ⟨u0, u1, u2⟩ := n1.three
  obtain ⟨v0, v1, v2⟩ := n2.three
  exact bodyPost_ret (v := .tuple #[.agg #[.int .i64 0, .int .i64 0, .int .i64 0], .agg #[.int .i64 0, .bool false, .slice none 0 0], .bool false, .bool false, .int .i64 E]) (by simp [results, Tryz.results114, go_sem, u0, u1, u2, v0, v1, v2]) rfl ⟨.slice none 0 0, rfl, StrsIn.nil _ _, n3⟩
 obtain ⟨gM, gY, gN⟩ := HGOOD.out hE
 have HFP2 := HFP.out hE
 have HST2 := HST.out hE
 have HFPH : Hid _ := HFP2
 have HSTH : Hid _ := HST2
 have HGM : Hid (rM = m) := gM
 have HGY : Hid (K = true → rG = PG ∧ rF = PF + 1 ∧ rX = frAt (getG first L O PG) PF.toNat ∧ rK = true ∧ rT = PT) := gY
 have HGN : Hid (K = false → rG = g ∧ rF = f ∧ rX = Fr.zero ∧ rK = false ∧ rT = false) := gN
 clear gM gY gN HFP2 HST2 HFP HST HGOOD HBAD
 obtain ⟨k0, k1, k2⟩ := HS1.out.now.1.1.three
 obtain ⟨j0, j1, j2⟩ := HS1.out.now.1.2.three
 subst hE
 obtain ⟨W1, hW1⟩ : ∃ W1, W1 = w1.alloc (.cells #[.int .i64 m, .int .i64 g, .int .i64 f, .int .i64 first, .slice ga ln gc, .slice oa lo oc] 201) := ⟨_, rfl⟩
 have HS2 := HS1.out.allocE hW1
 have KM1 : Hid (Blk W1 w1.heap.size #[.int .i64 m, .int .i64 g, .int .i64 f, .int .i64 first, .slice ga ln gc, .slice oa lo oc] 201) := Blk.newE hW1
 have lw1 : w.heap.size + 1 + 1 + 1 < w1.heap.size := HS1.out.now.2.1.2.lt
 clear HS1
 go_wp2_with fail
 rw [← hW1]
 clear hW1 k0 k1 k2 j0 j1 j2
 refine (HFPH.out _ _ HS2.out.now.2.2 KM1.out).mono ?_
 rintro e w2 ⟨rfl, km2, kp2⟩
 have lW1 : w1.heap.size < W1.heap.size := KM1.out.lt
 have b2 : Below w.heap.size w w2 := HS2.out.now.2.2.trans (kp2.toBelow (by omega) (fun k hk => by simp at hk; omega))
 have c2 := HS2.out.now.1.2.kept kp2 (by simp; omega)
 have p2 := HS2.out.now.2.1.1.kept kp2 (by simp; omega)
 have q2 := HS2.out.now.2.1.2.kept kp2 (by simp; omega)
 have KM2 : Hid (Blk w2 w1.heap.size #[.int .i64 m, .int .i64 PG, .int .i64 PF, .int .i64 first, .slice ga ln gc, .slice oa lo oc] 201) := km2
 have HB2 : Hid (Below w.heap.size w w2 ∧ Blk w2 (w.heap.size + 1) #[.int .i64 m, .int .i64 g, .int .i64 f] 36 ∧ Blk w2 (w.heap.size + 1 + 1) #[.int .i64 0, .int .i64 0, .int .i64 0] 36 ∧ Blk w2 (w.heap.size + 1 + 1 + 1) #[.int .i64 0, .bool false, .slice none 0 0] 98) := ⟨b2, c2, p2, q2⟩
 have lw2 : w1.heap.size < w2.heap.size := km2.lt
 clear b2 c2 p2 q2 km2 kp2 HS2 KM1 HFPH
 go_wp2_with fail
 refine (HSTH.out _ _ (by omega) HB2.out.1 KM2.out).mono ?_
 rintro e w3 ⟨x, pv, rfl, hx, hpv, km3, kp3⟩
 obtain ⟨pa, pc, ep⟩ := hpv.1.len
 obtain ⟨pn, hpn⟩ : ∃ n, n = x.parts.length := ⟨_, rfl⟩
 rw [← hpn] at ep
 clear hpn
 subst ep
 have sw3 := kp3.size
 have b3 : Below w.heap.size w w3 := HB2.out.1.trans (kp3.toBelow (by omega) (fun k hk => by simp at hk; omega))
 have c3 := HB2.out.2.1.kept kp3 (by simp; omega)
 have p3 := HB2.out.2.2.1.kept kp3 (by simp; omega)
 have q3 := HB2.out.2.2.2.kept kp3 (by simp; omega)
 obtain ⟨W3, hW3⟩ : ∃ W3, W3 = w3.alloc (.cells #[.int .i64 x.time, .bool x.key, .slice pa pn pc] 98) := ⟨_, rfl⟩
 have HS3 := ((below_stay b3 b3.size).and (c3.stay.and (p3.stay.and (q3.stay.and km3.stay)))).allocE hW3
 have HX3 := (((Blk.newE hW3).stay).and (hpv.allocE hW3).stay).hid
 have HX : Hid (x = if K then frAt (getG first L O PG) PF.toNat else Fr.zero) := hx
 have lw3 : w2.heap.size ≤ w3.heap.size := sw3
 clear b3 c3 p3 q3 km3 kp3 hpv hx HB2 KM2 HSTH
 cases K
 ·obtain ⟨e1, e2, e3, e4, e5⟩ := HGN.out rfl
  have HZ : Hid (rM = m ∧ rG = g ∧ rF = f ∧ rX = Fr.zero ∧ rK = false ∧ rT = false) := ⟨HGM.out, e1, e2, e3, e4, e5⟩
  obtain ⟨k0, k1, k2⟩ := HS3.out.now.2.1.three
  obtain ⟨j0, j1, j2⟩ := HS3.out.now.2.2.1.three
  obtain ⟨i0, i1, i2⟩ := HS3.out.now.2.2.2.1.three
  have fj := HS3.out.now.2.2.1.free
  have fi := HS3.out.now.2.2.2.1.free
  have lj := HS3.out.now.2.2.1.lt
  have li := HS3.out.now.2.2.2.1.lt
  have lk := HS3.out.now.2.1.lt
  obtain ⟨V, hV⟩ : ∃ V, V = (((((W3.setCell ⟨w.heap.size + 1 + 1, 0, none⟩ (.int .i64 m)).setCell ⟨w.heap.size + 1 + 1, 1, none⟩ (.int .i64 g)).setCell ⟨w.heap.size + 1 + 1, 2, none⟩ (.int .i64 f)).setCell ⟨w.heap.size + 1 + 1 + 1, 0, none⟩ (.int .i64 0)).setCell ⟨w.heap.size + 1 + 1 + 1, 1, none⟩ (.bool false)).setCell ⟨w.heap.size + 1 + 1 + 1, 2, none⟩ (.slice none 0 0) := ⟨_, rfl⟩
  have HV : Hid _ := HEND.out W3 V m g f 0 false (.slice none 0 0) HS3.out.now.1 HS3.out.now.2.2.1 HS3.out.now.2.2.2.1 hV
  clear HGN HGY HGM e1 e2 e3 e4 e5 HEND
  subst hW3
  go_wp2_with fail
  rw [← hV]
  obtain ⟨n1, n2, n3, _, _⟩ := HV.out
  obtain ⟨e1, e2, e3, e4, e5, e6⟩ := HZ.out
  rw [e1, e2, e3, e4, e5, e6]
  obtain ⟨u0, u1, u2⟩ := n1.three
  obtain ⟨v0, v1, v2⟩ := n2.three
  exact bodyPost_ret (v := .tuple #[.agg #[.int .i64 m, .int .i64 g, .int .i64 f], .agg #[.int .i64 0, .bool false, .slice none 0 0], .bool false, .bool false, .int .i64 0]) (by simp [results, Tryz.results114, go_sem, u0, u1, u2, v0, v1, v2]) rfl ⟨.slice none 0 0, rfl, StrsIn.nil _ _, n3⟩
 ·obtain ⟨e1, e2, e3, e4, e5⟩ := HGY.out rfl
  have hxx : x = frAt (getG first L O PG) PF.toNat := by rw [HX.out]; rfl
  have HZ : Hid (rM = m ∧ rG = PG ∧ rF = PF + 1 ∧ rX = x ∧ rK = true ∧ rT = PT) := ⟨HGM.out, e1, e2, by rw [e3, hxx], e4, e5⟩
  obtain ⟨k0, k1, k2, k3, k4, k5⟩ := HS3.out.now.2.2.2.2.sixw
  obtain ⟨j0, j1, j2⟩ := HS3.out.now.2.2.1.three
  obtain ⟨i0, i1, i2⟩ := HS3.out.now.2.2.2.1.three
  obtain ⟨x0, x1, x2⟩ := HX3.out.now.1.three
  have fj := HS3.out.now.2.2.1.free
  have fi := HS3.out.now.2.2.2.1.free
  have lj := HS3.out.now.2.2.1.lt
  have li := HS3.out.now.2.2.2.1.lt
  have lk := HS3.out.now.2.2.2.2.lt
  have lx := HX3.out.now.1.lt
  have hn1 : ¬ w1.heap.size = w.heap.size + 1 + 1 := by omega
  have hn2 : ¬ w1.heap.size = w.heap.size + 1 + 1 + 1 := by omega
  have hn3 : ¬ w3.heap.size = w.heap.size + 1 + 1 := by omega
  have hn4 : ¬ w3.heap.size = w.heap.size + 1 + 1 + 1 := by omega
  clear HGN HGY HGM e1 e2 e3 e4 e5 hxx HX
  obtain ⟨V, hV⟩ : ∃ V, V = (((((W3.setCell ⟨w.heap.size + 1 + 1, 0, none⟩ (.int .i64 m)).setCell ⟨w.heap.size + 1 + 1, 1, none⟩ (.int .i64 PG)).setCell ⟨w.heap.size + 1 + 1, 2, none⟩ (.int .i64 (PF + 1))).setCell ⟨w.heap.size + 1 + 1 + 1, 0, none⟩ (.int .i64 x.time)).setCell ⟨w.heap.size + 1 + 1 + 1, 1, none⟩ (.bool x.key)).setCell ⟨w.heap.size + 1 + 1 + 1, 2, none⟩ (.slice pa pn pc) := ⟨_, rfl⟩
  have HV : Hid _ := HEND.out W3 V m PG (PF + 1) x.time x.key (.slice pa pn pc) HS3.out.now.1 HS3.out.now.2.2.1 HS3.out.now.2.2.2.1 hV
  have HPZ : Hid (StrsIn (fun b => w.heap.size ≤ b) V (.slice pa pn pc) x.parts) := HX3.out.now.2.to ⟨by rw [HV.out.2.2.2.1]; exact Nat.le_refl _, fun b hb hS => HV.out.2.2.2.2 b (by omega) (by omega)⟩ (fun b _ hS => by omega)
  clear HEND
  subst hW3
  go_wp2_with fail
  go_region
  rw [← hV]
  clear hV x0 x1 x2 k0 k1 k2 k3 k4 k5 j0 j1 j2 i0 i1 i2
  go_wp2_with fail
  obtain ⟨n1, n2, n3, _, _⟩ := HV.out
  obtain ⟨e1, e2, e3, e4, e5, e6⟩ := HZ.out
  rw [e1, e2, e3, e4, e5, e6]
  obtain ⟨u0, u1, u2⟩ := n1.drew.three
  obtain ⟨v0, v1, v2⟩ := n2.drew.three
  exact bodyPost_ret (v := .tuple #[.agg #[.int .i64 m, .int .i64 PG, .int .i64 (PF + 1)], .agg #[.int .i64 x.time, .bool x.key, .slice pa pn pc], .bool true, .bool PT, .int .i64 0]) (by simp [results, Tryz.results114, go_sem, u0, u1, u2, v0, v1, v2]) rfl ⟨.slice pa pn pc, rfl, HPZ.out.below (Below.drew (Below.refl _ _)), Below.drew n3⟩
end Go.Proofs.YtnpaejknoipicagGreat
namespace Go.Proofs.YtnpaejknoipicagGreat
section
variable {first : Int} {L : List (List Fr)} {O : List Fr} {m g f upto : Int}
theorem nx_some (h : nxE first L O m g f upto = 0) {k j : Nat} {t : Bool} (hn : nxt m (allG L O) (g - first) f upto = some (k, j, t)) :
  nxM first L O m g f upto = m ∧ nxG first L O m g f upto = first + k ∧ nxF first L O m g f upto = j + 1 ∧ nxX first L O m g f upto = frAt (grAt (allG L O) k) j ∧ nxK first L O m g f upto = true ∧ nxT first L O m g f upto = t ∧ k < (allG L O).length ∧ j < (grAt (allG L O) k).length := by
 obtain ⟨h1, h2, h3, h4⟩ := nxE_zero.1 h
 obtain ⟨s0, s1, s2⟩ := next_spec upto h1 h2
 cases hk : okB first L O m (plG first L O m g f) (plF first L O g f) upto
 ·rw [s2 hk] at hn; cases hn
 ·obtain ⟨k', j', e1, e2, e3, e4, e5⟩ := s1 hk
  rw [e5] at hn
  injection hn with hn
  injection hn with a b
  injection b with b c
  subst a b
  have hK : nxK first L O m g f upto = true := by unfold nxK; rw [decide_eq_true h, hk]; rfl
  obtain ⟨g1, g2⟩ := getE_in h1 e1 e2
  refine ⟨if_pos h, by unfold nxG; rw [if_pos h, hK, if_pos rfl, e1], by unfold nxF; rw [if_pos h, hK, if_pos rfl, e3], ?_, hK, by unfold nxT; rw [hK, ← c]; rfl, e2, e4⟩
  unfold nxX; rw [hK, if_pos rfl, g2, e3]; rfl
theorem nx_bad (h : ¬ nxE first L O m g f upto = 0) : nxM first L O m g f upto = 0 ∧ nxG first L O m g f upto = 0 ∧ nxF first L O m g f upto = 0 ∧ nxX first L O m g f upto = Fr.zero ∧ nxK first L O m g f upto = false ∧ nxT first L O m g f upto = false := by
 have hK : nxK first L O m g f upto = false := by unfold nxK; rw [decide_eq_false h]; rfl
 refine ⟨if_neg h, if_neg h, if_neg h, by unfold nxX; rw [hK]; rfl, hK, by unfold nxT; rw [hK]; rfl⟩
theorem nx_none (h : nxE first L O m g f upto = 0) (hn : nxt m (allG L O) (g - first) f upto = none) : nxM first L O m g f upto = m ∧ nxG first L O m g f upto = g ∧ nxF first L O m g f upto = f ∧ nxX first L O m g f upto = Fr.zero ∧ nxK first L O m g f upto = false ∧ nxT first L O m g f upto = false := by
 obtain ⟨h1, h2, h3, h4⟩ := nxE_zero.1 h
 obtain ⟨s0, s1, s2⟩ := next_spec upto h1 h2
 have hk : okB first L O m (plG first L O m g f) (plF first L O g f) upto = false := by
  cases hk : okB first L O m (plG first L O m g f) (plF first L O g f) upto
  ·rfl
  ·obtain ⟨k', j', e1, e2, e3, e4, e5⟩ := s1 hk
   rw [e5] at hn; cases hn
 have hK : nxK first L O m g f upto = false := by unfold nxK; rw [hk]; simp
 refine ⟨if_pos h, by unfold nxG; rw [if_pos h, hK]; rfl, by unfold nxF; rw [if_pos h, hK]; rfl, by unfold nxX; rw [hK]; rfl, hK, by unfold nxT; rw [hK]; rfl⟩
end
def restF (A : List (List Fr)) (k j : Nat) : List Fr := (grAt A k).drop j ++ (A.drop (k + 1)).flatten
theorem restF_in {A : List (List Fr)} {k j : Nat} (hj : j < (grAt A k).length) : restF A k j = frAt (grAt A k) j :: restF A k (j + 1) := by
 unfold restF
 rw [List.drop_eq_getElem_cons hj, List.cons_append]
 congr 1
 simp [frAt, List.getElem?_eq_getElem hj]
theorem restF_behind {A : List (List Fr)} {k : Nat} (hk : k + 1 < A.length) (h0 : 0 < (grAt A (k + 1)).length) : restF A k (grAt A k).length = frAt (grAt A (k + 1)) 0 :: restF A (k + 1) 1 := by
 have : restF A k (grAt A k).length = restF A (k + 1) 0 := by
  unfold restF
  rw [List.drop_length, List.nil_append, List.drop_eq_getElem_cons hk, List.flatten_cons, List.drop_zero]
  congr 1
  simp [grAt, List.getElem?_eq_getElem hk]
 rw [this, restF_in h0]
theorem flatten_len {A : List (List Fr)} (h : ∀ g ∈ A, g.length ≤ 6) : A.flatten.length ≤ A.length * 6 := by
 induction A with
 | nil => simp
 | cons g r ih =>
  have := ih fun x hx => h x (List.mem_cons_of_mem _ hx)
  have := h g List.mem_cons_self
  simp only [List.flatten_cons, List.length_append, List.length_cons]
  omega
end Go.Proofs.YtnpaejknoipicagGreat
namespace Go.Proofs.YtnpaejknoipicagGreat
open Go.RowKit
def outE (l t s : Int) : Int := if l < 0 then 3 else if 1000000000 < l then 3 else if t < 0 then 3 else if 1000000 < t then 3 else if s < -1000000 then 3 else if 1000000 < s then 3 else 0
theorem outE_zero {l t s : Int} : outE l t s = 0 ↔ 0 ≤ l ∧ l ≤ 1000000000 ∧ 0 ≤ t ∧ t ≤ 1000000 ∧ -1000000 ≤ s ∧ s ≤ 1000000 := by
 unfold outE
 repeat' split
 all_goals first | omega | (constructor <;> intro h <;> omega)
set_option maxHeartbeats 2000000 in
set_option maxRecDepth 100000 in
theorem outCheck_any (l t s : Int) (w : World) :
  Calls Tryz.prog 56 #[.agg #[.int .i64 l, .int .i64 t, .int .i64 s]] w fun e w' => e = .returned (.int .i64 (outE l t s)) ∧ Below w.heap.size w w' := by
 obtain ⟨E, hE⟩ : ∃ E, E = outE l t s := ⟨_, rfl⟩
 have HE : Hid (E = if l < 0 then 3 else if 1000000000 < l then 3 else if t < 0 then 3 else if 1000000 < t then 3 else if s < -1000000 then 3 else if 1000000 < s then 3 else 0) := hE
 have HB : Hid (Below w.heap.size w (w.alloc (.cells #[.int .i64 l, .int .i64 t, .int .i64 s] 38))) := (Below.refl _ _).alloc (Nat.le_refl _) _
 rw [← hE]
 clear hE
 by_cases h0 : l < 0
 ·have e : E = 3 := by rw [HE.out, if_pos h0]
  subst e
  go_enter Tryz.func56, Tryz.ntmps56
  go_wp2
  go_ret
  exact ⟨rfl, HB.out⟩
 by_cases h1 : 1000000000 < l
 ·have e : E = 3 := by rw [HE.out, if_neg h0, if_pos h1]
  subst e
  go_enter Tryz.func56, Tryz.ntmps56
  go_wp2
  go_ret
  exact ⟨rfl, HB.out⟩
 by_cases h2 : t < 0
 ·have e : E = 3 := by rw [HE.out, if_neg h0, if_neg h1, if_pos h2]
  subst e
  go_enter Tryz.func56, Tryz.ntmps56
  go_wp2
  go_ret
  exact ⟨rfl, HB.out⟩
 by_cases h3 : 1000000 < t
 ·have e : E = 3 := by rw [HE.out, if_neg h0, if_neg h1, if_neg h2, if_pos h3]
  subst e
  go_enter Tryz.func56, Tryz.ntmps56
  go_wp2
  go_ret
  exact ⟨rfl, HB.out⟩
 by_cases h4 : s < -1000000
 ·have e : E = 3 := by rw [HE.out, if_neg h0, if_neg h1, if_neg h2, if_neg h3, if_pos h4]
  subst e
  go_enter Tryz.func56, Tryz.ntmps56
  go_wp2
  go_ret
  exact ⟨rfl, HB.out⟩
 by_cases h5 : 1000000 < s
 ·have e : E = 3 := by rw [HE.out, if_neg h0, if_neg h1, if_neg h2, if_neg h3, if_neg h4, if_pos h5]
  subst e
  go_enter Tryz.func56, Tryz.ntmps56
  go_wp2
  go_ret
  exact ⟨rfl, HB.out⟩
 have e : E = 0 := by rw [HE.out, if_neg h0, if_neg h1, if_neg h2, if_neg h3, if_neg h4, if_neg h5]
 subst e
 go_enter Tryz.func56, Tryz.ntmps56
 go_wp2
 go_ret
 exact ⟨rfl, HB.out⟩
set_option maxHeartbeats 2000000 in
set_option maxRecDepth 100000 in
theorem isNew_any (M : Nat) (l t s : Int) (w : World) (hM : Blk w M #[.int .i64 l, .int .i64 t, .int .i64 s] 150) :
  Calls Tryz.prog 95 #[.pointer (some ⟨M, 0, none⟩)] w fun e w' => e = .returned (.bool (l == 0)) ∧ w = w' := by
 obtain ⟨k0, k1, k2⟩ := hM.three
 go_enter Tryz.func95, Tryz.ntmps95
 go_wp2_with fail
 go_ret
 exact ⟨rfl, rfl⟩
set_option maxHeartbeats 2000000 in
set_option maxRecDepth 100000 in
theorem timeOf_any (M : Nat) (l t s ft : Int) (fk : Bool) (pa : Option Addr) (pn pc : Nat) (w : World) (hM : Blk w M #[.int .i64 l, .int .i64 t, .int .i64 s] 150) (hf0 : 0 ≤ ft) (hf1 : ft ≤ 1000000) (hs0 : -3000000 ≤ s) (hs1 : s ≤ 3000000) :
  Calls Tryz.prog 127 #[.pointer (some ⟨M, 0, none⟩), .agg #[.int .i64 ft, .bool fk, .slice pa pn pc]] w fun e w' => e = .returned (.int .i64 (ft + s)) ∧ Below w.heap.size w w' := by
 obtain ⟨k0, k1, k2⟩ := hM.three
 have lM := hM.lt
 have HB : Hid (Below w.heap.size w (w.alloc (.cells #[.int .i64 ft, .bool fk, .slice pa pn pc] 98))) := (Below.refl _ _).alloc (Nat.le_refl _) _
 go_enter Tryz.func127, Tryz.ntmps127
 go_wp2_with fail
 go_quiet (fail)
 go_wp2_with fail
 go_ret
 exact ⟨rfl, below_drewN HB.out _⟩
set_option maxHeartbeats 2000000 in
set_option maxRecDepth 100000 in
theorem turnTo_any (M : Nat) (l t s ft : Int) (fk : Bool) (pa : Option Addr) (pn pc : Nat) (w : World) (hM : Blk w M #[.int .i64 l, .int .i64 t, .int .i64 s] 150) (hf0 : 0 ≤ ft) (hf1 : ft ≤ 1000000) (ht0 : 0 ≤ t) (ht1 : t ≤ 1000000) :
  Calls Tryz.prog 96 #[.pointer (some ⟨M, 0, none⟩), .agg #[.int .i64 ft, .bool fk, .slice pa pn pc]] w fun e w' => e = .returned (.tuple #[]) ∧ Blk w' M #[.int .i64 l, .int .i64 t, .int .i64 (t + 10 - ft)] 150 ∧ Kept [M] w w' := by
 obtain ⟨k0, k1, k2⟩ := hM.three
 have lM := hM.lt
 have fM := hM.free
 have HV : Hid (Blk ((w.setCell ⟨M, 2, none⟩ (.int .i64 (t + 10 - ft))).alloc (.cells #[.int .i64 ft, .bool fk, .slice pa pn pc] 98)).drew M #[.int .i64 l, .int .i64 t, .int .i64 (t + 10 - ft)] 150 ∧ Kept [M] w ((w.setCell ⟨M, 2, none⟩ (.int .i64 (t + 10 - ft))).alloc (.cells #[.int .i64 ft, .bool fk, .slice pa pn pc] 98)).drew) :=
  ⟨Blk.drew (Blk.alloc (by have := hM.set 2 (.int .i64 (t + 10 - ft)); simpa using this) _), (((Kept.refl [M] w).setCell (by simp) _).alloc _).drew⟩
 clear hM
 go_enter Tryz.func96, Tryz.ntmps96
 go_wp2_with fail
 go_region
 go_wp2_with fail
 go_end0
 exact ⟨rfl, HV.out.1, HV.out.2⟩
end Go.Proofs.YtnpaejknoipicagGreat
namespace Go.Proofs.YtnpaejknoipicagGreat
open Go.RowKit Go.Sort
def roomE (l t s ft : Int) (pn : Nat) : Int := if ft + s < t then 4 else if 1000000 < ft + s then 2 else if 1000000000 < l + pn then 2 else 0
set_option maxHeartbeats 4000000 in
set_option maxRecDepth 100000 in
theorem checkRoom_any (M : Nat) (l t s ft : Int) (fk : Bool) (pa : Option Addr) (pn pc : Nat) (w : World) (hM : Blk w M #[.int .i64 l, .int .i64 t, .int .i64 s] 150) (hf0 : 0 ≤ ft) (hf1 : ft ≤ 1000000) (hs0 : -3000000 ≤ s) (hs1 : s ≤ 3000000) (hl0 : 0 ≤ l) (hl1 : l ≤ 1000000000) (hpn : pn ≤ 4) :
  Calls Tryz.prog 97 #[.pointer (some ⟨M, 0, none⟩), .agg #[.int .i64 ft, .bool fk, .slice pa pn pc]] w fun e w' => e = .returned (.int .i64 (roomE l t s ft pn)) ∧ Below w.heap.size w w' := by
 obtain ⟨W1, hW1⟩ : ∃ W1, W1 = w.alloc (.cells #[.int .i64 ft, .bool fk, .slice pa pn pc] 98) := ⟨_, rfl⟩
 obtain ⟨FB, hFB⟩ : ∃ n, n = w.heap.size := ⟨_, rfl⟩
 have HS1 : Hid (Stay W1 (fun U => (Blk U M #[.int .i64 l, .int .i64 t, .int .i64 s] 150 ∧ Blk U FB #[.int .i64 ft, .bool fk, .slice pa pn pc] 98) ∧ Below w.heap.size w U)) := by
  have hb : Below w.heap.size w W1 := by rw [hW1]; exact (Below.refl _ _).alloc (Nat.le_refl _) _
  exact ((hM.below hb hM.lt).stay.and (by rw [hFB]; exact (Blk.newE hW1).stay)).and (below_stay hb hb.size)
 obtain ⟨tm, htm⟩ : ∃ tm, tm = ft + s := ⟨_, rfl⟩
 have HT : Hid (∀ U : World, Blk U M #[.int .i64 l, .int .i64 t, .int .i64 s] 150 → Calls Tryz.prog 127 #[.pointer (some ⟨M, 0, none⟩), .agg #[.int .i64 ft, .bool fk, .slice pa pn pc]] U fun e w' => e = .returned (.int .i64 tm) ∧ Below U.heap.size U w') := fun U h => by
  rw [htm]; exact timeOf_any M l t s ft fk pa pn pc U h hf0 hf1 hs0 hs1
 obtain ⟨E, hE⟩ : ∃ E, E = roomE l t s ft pn := ⟨_, rfl⟩
 have HE : Hid (E = if tm < t then 4 else if 1000000 < tm then 2 else if 1000000000 < l + pn then 2 else 0) := by show _ = _; rw [hE, htm]; rfl
 rw [← hE]
 clear hM hE htm
 go_enter Tryz.func97, Tryz.ntmps97
 have mk : ∀ X : World, Below W1.heap.size W1 X → ∀ d os, Calls Tryz.prog 127 #[.pointer (some ⟨M, 0, none⟩), .agg #[.int .i64 ft, .bool fk, .slice pa pn pc]] (grow (redrawn X d) os) fun e w'' => e = .returned (.int .i64 tm) ∧ ∃ p : Regrown, w'' = grow (redrawn X p.d) p.os := fun X hX d os =>
  Calls.regrown_of (HT.out _ ((HS1.out X hX).1.1.below (below_regrown X d os) (HS1.out X hX).1.1.lt))
 have MK : Hid (∀ X : World, Below W1.heap.size W1 X → ∀ d os, Calls Tryz.prog 127 #[.pointer (some ⟨M, 0, none⟩), .agg #[.int .i64 ft, .bool fk, .slice pa pn pc]] (grow (redrawn X d) os) fun e w'' => e = .returned (.int .i64 tm) ∧ ∃ p : Regrown, w'' = grow (redrawn X p.d) p.os) := mk
 clear mk HT
 have cF := MK.out W1 (Below.refl _ _)
 obtain ⟨m0, m1, m2⟩ := HS1.out.now.1.1.three
 obtain ⟨f0, f1, f2⟩ := HS1.out.now.1.2.three
 have a0 := cell_regrown m0
 have a1 := cell_regrown m1
 have b0 := cell_regrown f0
 have b1 := cell_regrown f1
 have b2 := cell_regrown f2
 clear m0 m1 m2 f0 f1 f2
 go_wp2_with fail
 rw [← hW1, ← hFB]
 clear hW1 hFB
 refine wp_region_quiet_below (by kernel_rfl) (by kernel_rfl) ?_
 repeat (quiet_step (exact cF _ _))
 refine wpQuiet_nil ?_
 intro _ hw'
 obtain ⟨⟨dq, osq⟩, hw''⟩ := hw'
 subst hw''
 have bR := below_regrown W1 dq osq
 obtain ⟨V, hV⟩ : ∃ V, V = grow (redrawn W1 dq) osq := ⟨_, rfl⟩
 rw [← hV] at bR
 rw [← hV]
 have HB : Hid (Below W1.heap.size W1 V) := bR
 clear hV bR cF a0 a1 b0 b1 b2
 by_cases h1 : tm < t
 ·have e : E = 4 := by rw [HE.out, if_pos h1]
  subst e
  go_wp2_with fail
  go_ret
  exact ⟨rfl, (HS1.out V HB.out).2⟩
 have cG := MK.out V HB.out
 obtain ⟨m0, m1, m2⟩ := (HS1.out V HB.out).1.1.three
 obtain ⟨f0, f1, f2⟩ := (HS1.out V HB.out).1.2.three
 have a0 := cell_regrown m0
 have a1 := cell_regrown m1
 have a2 := cell_regrown m2
 have b0 := cell_regrown f0
 have b1 := cell_regrown f1
 have b2 := cell_regrown f2
 clear m0 m1 m2 f0 f1 f2 MK
 by_cases h2 : 1000000 < tm
 ·have e : E = 2 := by rw [HE.out, if_neg h1, if_pos h2]
  subst e
  go_wp2_with fail
  refine wp_region_quiet_below (by kernel_rfl) (by kernel_rfl) ?_
  iterate 4 (quiet_step (exact cG _ _))
  refine wpQuiet_step (fun K hK => ?_)
  go_simp
  generalize hA : Act.mk _ _ = A
  refine hK A ?_
  clear hK K
  refine wpQuiet_jump 10 (by rw [← hA]; kernel_rfl) (fun B hB => ?_)
  rw [← hA] at hB
  simp only [List.take, List.drop] at hB ⊢
  simp [putU, go_sem] at hB
  subst hB
  clear hA
  iterate 1 (quiet_step (exact cG _ _))
  refine wpQuiet_nil ?_
  intro _ hw'
  obtain ⟨⟨dq, osq⟩, hw''⟩ := hw'
  subst hw''
  have bR := below_regrown V dq osq
  obtain ⟨Y, hY⟩ : ∃ Y, Y = grow (redrawn V dq) osq := ⟨_, rfl⟩
  rw [← hY] at bR
  rw [← hY]
  have HBY : Hid (Below W1.heap.size W1 Y) := HB.out.trans (bR.mono HB.out.size)
  clear hY bR cG a0 a1 a2 b0 b1 b2
  go_wp2_with fail
  go_ret
  exact ⟨rfl, (HS1.out Y HBY.out).2⟩
 ·have hwr : IntKind.i64.wrap (l + (pn : Int)) = l + (pn : Int) := by rw [IntKind.wrap_i64]; omega
  have h3i : 1000000000 < l + (pn : Int) ∨ ¬ 1000000000 < l + (pn : Int) := by omega
  rcases h3i with h3 | h3
  ·have e : E = 2 := by rw [HE.out, if_neg h1, if_neg h2, if_pos h3]
   have d2 : decide (1000000 < tm) = false := decide_eq_false h2
   have d3 : decide (1000000000 < l + (pn : Int)) = true := decide_eq_true h3
   subst e
   go_wp2_with fail
   refine wp_region_quiet_below (by kernel_rfl) (by kernel_rfl) ?_
   repeat (quiet_step (exact cG _ _))
   refine wpQuiet_nil ?_
   intro _ hw'
   obtain ⟨⟨dq, osq⟩, hw''⟩ := hw'
   subst hw''
   have bR := below_regrown V dq osq
   obtain ⟨Y, hY⟩ : ∃ Y, Y = grow (redrawn V dq) osq := ⟨_, rfl⟩
   rw [← hY] at bR
   rw [← hY]
   have HBY : Hid (Below W1.heap.size W1 Y) := HB.out.trans (bR.mono HB.out.size)
   clear hY bR cG a0 a1 a2 b0 b1 b2
   go_wp2_with fail
   go_ret
   exact ⟨rfl, (HS1.out Y HBY.out).2⟩
  ·have e : E = 0 := by rw [HE.out, if_neg h1, if_neg h2, if_neg h3]
   have d2 : decide (1000000 < tm) = false := decide_eq_false h2
   have d3 : decide (1000000000 < l + (pn : Int)) = false := decide_eq_false h3
   subst e
   go_wp2_with fail
   refine wp_region_quiet_below (by kernel_rfl) (by kernel_rfl) ?_
   repeat (quiet_step (exact cG _ _))
   refine wpQuiet_nil ?_
   intro _ hw'
   obtain ⟨⟨dq, osq⟩, hw''⟩ := hw'
   subst hw''
   have bR := below_regrown V dq osq
   obtain ⟨Y, hY⟩ : ∃ Y, Y = grow (redrawn V dq) osq := ⟨_, rfl⟩
   rw [← hY] at bR
   rw [← hY]
   have HBY : Hid (Below W1.heap.size W1 Y) := HB.out.trans (bR.mono HB.out.size)
   clear hY bR cG a0 a1 a2 b0 b1 b2
   go_wp2_with fail
   go_ret
   exact ⟨rfl, (HS1.out Y HBY.out).2⟩
end Go.Proofs.YtnpaejknoipicagGreat
namespace Go.Proofs.YtnpaejknoipicagGreat
open Go.RowKit
def pkCells (l : List Pk) : List Value := l.flatMap fun p => p.cells.toList
theorem pkCells_append (l m : List Pk) : pkCells (l ++ m) = pkCells l ++ pkCells m := by simp [pkCells]
theorem pkCells_one (p : Pk) : pkCells [p] = p.cells.toList := by simp [pkCells]
theorem pkCells_len (l : List Pk) : (pkCells l).length = l.length * 6 := by
 induction l with
 | nil => rfl
 | cons p r ih => rw [show p :: r = [p] ++ r from rfl, pkCells_append, pkCells_one, List.length_append, ih]; simp [Pk.cells]; omega
def Pks (w : World) (v : Value) (l : List Pk) : Prop := Sl w v l.length 6 (pkCells l)
theorem Pks.below {w w' : World} {v : Value} {l : List Pk} (h : Pks w v l) (hb : Below w.heap.size w w') : Pks w' v l := Sl.below h hb
theorem Tryz.infoPkt : (Tryz.prog.info? 63).map (fun i => (i.zero, i.size, i.bytes)) = some (some Pk.zero.val, 6, 40) := by kernel_rfl
theorem Pk.one2 (p : Pk) : ∀ u ∈ p.cells.toList, u.oneCell' = true := fun u hu => by
 simp [Pk.cells] at hu
 rcases hu with rfl | rfl | rfl | rfl | rfl | rfl <;> rfl
theorem pk_snoc {base : Nat} {w : World} {v : Value} {n : Nat} {l : List Pk} (p : Pk) (h : w.ownsRow base 63 6 v n (pkCells l)) (hl : n ≤ 999) (hb : base ≤ w.heap.size) :
  ∃ v' w', (Builtin.append_ #[42, 42] 42 #[v, .slice (some ⟨w.heap.size, 0, none⟩) 1 1]).run Tryz.prog (w.alloc (.cells p.cells 63)) = .ok v' w' ∧ w'.ownsRow base 63 6 v' (n + 1) (pkCells (l ++ [p])) ∧ (w.alloc (.cells p.cells 63)).grownBy w' v.ownBlock := by
 obtain ⟨i0, hi, hz0, hz1, hz2⟩ := info_parts Tryz.infoPkt
 obtain ⟨v', w', r, o, g, _⟩ := run_append_any (P := Tryz.prog) (w.alloc (.cells p.cells 63)) base 42 42 63 i0 _ 6 40 Tryz.underlying42 hi hz0 hz1 hz2 rfl (by decide) v n (pkCells l) (h.alloc _) 1 p.cells.toList (.slice (some ⟨w.heap.size, 0, none⟩) 1 1) (Sl.new w p.cells 63 1 6 1 rfl) p.one2 (by unfold maxLen; omega) (by omega) (by simp; omega)
 exact ⟨v', w', r, by rw [pkCells_append, pkCells_one]; exact o, g⟩
theorem grown_cell {w w' : World} {row : Option Nat} {a : Addr} (hg : w.grownBy w' row) (ha : a.block < w.heap.size) (hn : some a.block ≠ row) : w'.cell? a = w.cell? a := by
 unfold World.cell?; rw [hg.block _ ha hn]
theorem Pks.at {w : World} {ao : Option Addr} {n c k : Nat} {l : List Pk} (h : Pks w (.slice ao n c) l) (hk : k < l.length) : ∃ b off, ao = some ⟨b, off, none⟩ ∧ b < w.heap.size ∧ ∀ j u, (l[k]).cells[j]? = some u → w.cell? ⟨b, off + k * 6 + j, none⟩ = some u := by
 obtain ⟨_, ⟨h0, _⟩ | ⟨b, off, c', e, hb, hc⟩⟩ := h
 ·omega
 ·injection e with e1 _ _
  refine ⟨b, off, e1, hb, fun j u hj => ?_⟩
  rw [Nat.add_assoc]
  refine hc _ _ ?_
  have hj6 : j < 6 := by
   have := (Array.getElem?_eq_some_iff.1 hj).1
   simpa [Pk.cells] using this
  have : l = l.take k ++ [l[k]] ++ l.drop (k + 1) := by
   rw [List.append_assoc, List.singleton_append, List.getElem_cons_drop, List.take_append_drop]
  rw [this, pkCells_append, pkCells_append, pkCells_one]
  have hl1 : (pkCells (l.take k)).length = k * 6 := by rw [pkCells_len, List.length_take, Nat.min_eq_left (by omega)]
  rw [List.getElem?_append_left (by rw [List.length_append, hl1]; simp [Pk.cells]; omega), List.getElem?_append_right (by omega), hl1, Nat.add_sub_cancel_left]
  simpa using hj
def pkAt (last t : Int) (key : Bool) (ps : List ByteArray) (i : Nat) : Pk := ⟨(last + 1 + i) % 65536, t, i == 0, i == ps.length - 1, i == 0 && key, ps[i]?.getD ByteArray.empty⟩
def pksK (last t : Int) (key : Bool) (ps : List ByteArray) (k : Nat) : List Pk := (List.range k).map (pkAt last t key ps)
def pksOf (last t : Int) (key : Bool) (ps : List ByteArray) : List Pk := pksK last t key ps ps.length
theorem pksK_succ (last t : Int) (key : Bool) (ps : List ByteArray) (k : Nat) : pksK last t key ps (k + 1) = pksK last t key ps k ++ [pkAt last t key ps k] := by simp [pksK, List.range_succ]
theorem pksK_len (last t : Int) (key : Bool) (ps : List ByteArray) (k : Nat) : (pksK last t key ps k).length = k := by simp [pksK]
section
variable {P : Program} {Q : Exit → Act → World → Prop}
def StepG (P : Program) (ops : Array Oper) (o : Oper) (a : Act) (w : World) (K : Act → World → Prop) (Q : Exit → Act → World → Prop) : Prop :=
 (Region.wanted o (yielded ops a.tmps) = true ∧ o.wp P a w K Q) ∨ (Region.wanted o (yielded ops a.tmps) = false ∧ K (a.put o.dst undef) w)
theorem StepG.mono {ops : Array Oper} {o : Oper} {a : Act} {w : World} {K K' : Act → World → Prop} (h : ∀ a w, K a w → K' a w) (hh : StepG P ops o a w K Q) : StepG P ops o a w K' Q := by
 rcases hh with ⟨h1, h2⟩ | ⟨h1, h2⟩
 ·exact .inl ⟨h1, Oper.wp_mono h h2⟩
 ·exact .inr ⟨h1, h _ _ h2⟩
def regOkG (l : List Oper) : Bool := dstsApart l && (l.zipIdx.all fun p => p.1.after.all fun e => decide (e.on < p.2) || !(Region.binds .any e))
theorem putL_other2 {L : Array Bool} {vs : Nat → Value} {x : Operand} : ∀ (l : List Oper) (k : Nat) (a : Act), (∀ j p, l[j]? = some p → L.getD (k + j) false = true → ∀ t, p.dst = some t → x ≠ .tmp t) → (putL L vs k l a).eval x = a.eval x
 | [], _, _, _ => rfl
 | o :: r, k, a, h => by
  simp only [putL]
  rw [putL_other2 r (k + 1) _ (fun j p hp hl => h (j + 1) p (by simpa using hp) (by rw [show k + (j + 1) = k + 1 + j by omega]; exact hl))]
  split
  ·rename_i hk
   exact Act.eval_put (fun t ht => h 0 o (by simp) (by simpa using hk) t ht)
  ·rfl
theorem tmps_of {a : Act} {k : Nat} {b : Bool} (he : a.eval (.tmp k) = .bool b) : a.tmps[k]? = some (.bool b) := by
 simp only [Act.eval, Array.getD_eq_getD_getElem?] at he
 cases hk : a.tmps[k]? with
 | none => rw [hk] at he; simp [undef] at he
 | some v => rw [hk] at he; simpa using he
theorem wpAny_invG {md : Region.Mode} {ops : Array Oper} (I : Array Bool → Act → World → Prop)
  (hstep : ∀ L a w, L.size = ops.size → I L a w → ∀ (i : Nat) (o : Oper), ops[i]? = some o → L[i]? = some false → (∀ e ∈ o.after, Region.binds md e = true → L.getD e.on false = true) → StepG P ops o a w (fun a' w' => I (L.setIfInBounds i true) a' w') Q)
  (hend : ∀ L a w, L.size = ops.size → I L a w → Region.ready md ops L = [] → Q .normal a w) :
  ∀ (fuel : Nat) (L : Array Bool) (a : Act) (w : World), L.size = ops.size → left L ≤ fuel → I L a w → wpAny P md ops Q fuel L a w
 | 0, L, a, w, hs, hf, hI => by
  have hr : Region.ready md ops L = [] := by
   rw [List.eq_nil_iff_forall_not_mem]
   intro j hj
   have h := getD_false (mem_ready.1 hj).1
   have := left_set h
   omega
  exact ⟨hr, hend L a w hs hI hr⟩
 | fuel + 1, L, a, w, hs, hf, hI => by
  refine ⟨hend L a w hs hI, fun i hi => ?_⟩
  obtain ⟨h1, o, h2, h3⟩ := mem_ready.1 hi
  have h4 := getD_false h1
  unfold wpOp
  rcases hstep L a w hs hI i o h2 h4 h3 with ⟨hw, h⟩ | ⟨hw, h⟩
  ·simp only [h2, hw, if_true]
   exact .inl (Oper.wp_mono (fun a' w' h => wpAny_invG I hstep hend fuel _ a' w' (by simpa using hs) (by have := left_set h4; omega) h) h)
  ·simp only [h2, hw, Bool.false_eq_true, if_false]
   exact wpAny_invG I hstep hend fuel _ _ _ (by simpa using hs) (by have := left_set h4; omega) h
theorem wp_region_invG {id : Nat} {a : Act} {w : World} {l : List Oper} (hm : P.follows .mixedOrders = true) (hB : regOkG l = true) (F : Array Bool → (Nat → Value) → World → Prop)
  (h0 : F (Array.replicate l.length false) (fun _ => undef) { w with drawn := w.drawn + 1 })
  (hstep : ∀ L vs w', F L vs w' → ∀ (i : Nat) (o : Oper), l[i]? = some o → L[i]? = some false → (∀ e ∈ o.after, Region.binds .any e = true → L.getD e.on false = true) →
   StepG P l.toArray o (putL L vs 0 l a) w' (fun a' w'' => ∃ v, a' = (putL L vs 0 l a).put o.dst v ∧ F (L.setIfInBounds i true) (upd vs i v) w'') Q)
  (hend : ∀ L vs w', F L vs w' → (∀ i, i < l.length → L.getD i false = true) → Q .normal (putL L vs 0 l a) w') : (Code.region id l.toArray true).wp P Q a w := by
 simp only [regOkG, Bool.and_eq_true] at hB
 obtain ⟨hd, hA⟩ := hB
 refine wp_region_any hm ?_
 refine wpAny_invG (md := .any) (fun L a' w' => ∃ vs, a' = putL L vs 0 l a ∧ F L vs w') ?_ ?_ _ _ _ _ (by simp) ?_ ?_
 ·rintro L a' w' hs ⟨vs, rfl, hF⟩ i o ho hL hrdy
  refine StepG.mono (fun a'' w'' ⟨v, h1, h2⟩ => ?_) (hstep L vs w' hF i o (by simpa using ho) hL hrdy)
  exact ⟨upd vs i v, by rw [h1, putL_set hL l 0 a o hd (Nat.zero_le _) (by simpa using ho)], h2⟩
 ·rintro L a' w' hs ⟨vs, rfl, hF⟩ hr
  refine hend L vs w' hF (fun i hi => ?_)
  have := ready_nil hs (fun i o ho e he hb => ?_) hr i (by simpa using hi)
  ·simp [Array.getD_eq_getD_getElem?, this]
  ·have h1 : (o, i) ∈ l.zipIdx := by
    rw [List.mem_zipIdx_iff_getElem?]; simpa using ho
   have h2 := List.all_eq_true.1 hA _ h1
   rw [Array.all_eq_true_iff_forall_mem] at h2
   simpa [hb] using h2 e he
 ·simp only [left]; exact Nat.le_trans List.countP_le_length (by simp)
 ·refine ⟨fun _ => undef, ?_, by simpa using h0⟩
  have : ∀ (m : List Oper) (k : Nat) (a : Act), a = putL (Array.replicate l.toArray.size false) (fun _ => undef) k m a := by
   intro m
   induction m with
   | nil => intro k a; rfl
   | cons o r ih =>
    intro k a
    simp only [putL]
    rw [if_neg (by simp [Array.getD_eq_getD_getElem?, Array.getElem?_replicate]; split <;> simp)]
    exact ih (k + 1) a
  exact this l 0 a
theorem region_chainG {id : Nat} {a : Act} {w : World} {l : List Oper} (hm : P.follows .mixedOrders = true) (hB : regOkG l = true) (ks : List Ck) (st : List Nat) (hK : chainOk ks l st a.tmps.size = true)
  (I : Nat → (Nat → Value) → World → Prop) (h0 : I 0 (fun _ => undef) { w with drawn := w.drawn + 1 })
  (hstep : ∀ i o, l[i]? = some o → ∀ (a' : Act) (w' : World) (s : Nat) (r : Nat → Value), I s r w' → (∀ s, (l.zipIdx.all fun p => p.1.dst != some s || waits l p.2 i) = true → a'.eval (.tmp s) = a.eval (.tmp s)) → (∀ j oj k, waits l i j = true → l[j]? = some oj → oj.dst = some k → a'.eval (.tmp k) = (ckAt ks j).out r) →
   match ckAt ks i with
   | .quiet v lim => s ≤ lim → (Region.wanted o (yielded l.toArray a'.tmps) = true ∧ (execOp a'.eval o).run P w' = .ok (.value v) w') ∨ (Region.wanted o (yielded l.toArray a'.tmps) = false ∧ v = undef)
   | .step t => s = t → o.guard = none ∧ o.wp P a' w' (fun a'' w'' => ∃ v, a'' = a'.put o.dst v ∧ I (t + 1) (updR r t v) w'') Q)
  (hend : ∀ (r : Nat → Value) (w' : World), I st.length r w' → Q .normal (putC r ks l a) w') :
  (Code.region id l.toArray true).wp P Q a w := by
 simp only [chainOk, Bool.and_eq_true, decide_eq_true_eq] at hK
 obtain ⟨⟨⟨hlen, hdst⟩, hst⟩, hall⟩ := hK
 have hap : dstsApart l = true := by simp only [regOkG, Bool.and_eq_true] at hB; exact hB.1
 have hal : ∀ i, i < l.length → _ := fun i hi => List.all_eq_true.1 hall i (List.mem_range.2 hi)
 have hsl : ∀ s, s < st.length → _ := fun s hs => List.all_eq_true.1 hst s (List.mem_range.2 hs)
 have hstp : ∀ s, s < st.length → ∃ i, st[s]? = some i ∧ i < l.length ∧ ckAt ks i = .step s ∧ (0 < s → ∃ j, st[s - 1]? = some j ∧ waits l i j = true) := fun s hs => by
  have h := hsl s hs
  have e : st[s]? = some st[s] := List.getElem?_eq_getElem hs
  rw [e] at h
  simp only [Bool.and_eq_true, decide_eq_true_eq, Bool.or_eq_true, beq_iff_eq] at h
  refine ⟨st[s], e, h.1.1, ?_, fun h0 => ?_⟩
  ·have h2 := h.1.2
   cases hk : ckAt ks st[s] with
   | quiet v lim => rw [hk] at h2; cases h2
   | step t => rw [hk] at h2; simp at h2; rw [h2]
  ·have h3 := h.2
   rcases h3 with h3 | h3
   ·omega
   ·have e2 : st[s - 1]? = some st[s - 1] := List.getElem?_eq_getElem (by omega)
    rw [e2] at h3
    exact ⟨_, e2, h3⟩
 have hst2 : ∀ i t, i < l.length → ckAt ks i = .step t → st[t]? = some i := fun i t hi hk => by
  have h := hal i hi
  rw [hk] at h
  simpa using h
 refine wp_region_invG hm hB (fun L vs w' => ∃ s r, RC ks l l.length st.length I (fun j => L.getD j false) vs s r w') ?_ ?_ ?_
 ·have hno : ∀ j, ¬ (Array.replicate l.length false).getD j false = true := fun j => by
   simp [Array.getD_eq_getD_getElem?, Array.getElem?_replicate]; split <;> simp
  exact ⟨0, fun _ => undef, fun i h => absurd h (hno i), fun i t _ _ => ⟨fun h => absurd h (hno i), fun h => absurd h (Nat.not_lt_zero _)⟩, fun i h => absurd h (hno i), h0, Nat.zero_le _, fun _ j h => absurd h (hno j)⟩
 ·rintro L vs w' ⟨s, r, F⟩ i o ho hL hr
  have hi : i < l.length := (List.getElem?_eq_some_iff.1 ho).1
  have ni : L.getD i false = false := by simpa using listed_no hL
  have hset := setfun hL
  have hwt : ∀ j, waits l i j = true → L.getD j false = true := fun j hw => waits_spec hw ho hr
  have hfree : ∀ s, (l.zipIdx.all fun p => p.1.dst != some s || waits l p.2 i) = true → (putL L vs 0 l a).eval (.tmp s) = a.eval (.tmp s) := fun s hs => putL_other2 l 0 a (fun j p hp hj t ht e => by
   injection e with e
   subst e
   rw [Nat.zero_add] at hj
   have h1 : (p, j) ∈ l.zipIdx := by rw [List.mem_zipIdx_iff_getElem?]; exact hp
   have := List.all_eq_true.1 hs _ h1
   simp only [ht, bne_self_eq_false, Bool.false_or] at this
   have h2 := F.closed i j hj this
   rw [h2] at ni
   cases ni)
  have hvals : ∀ j oj k, waits l i j = true → l[j]? = some oj → oj.dst = some k → (putL L vs 0 l a).eval (.tmp k) = (ckAt ks j).out r := fun j oj k hw hoj hk => by
   have h1 := hwt j hw
   have hk2 := List.all_eq_true.1 hdst oj (List.mem_of_getElem? hoj)
   rw [hk] at hk2
   rw [putL_at h1 l 0 a oj hap (Nat.zero_le _) (by simpa using hoj) hk (by simpa using hk2)]
   exact F.vals j h1
  have hs := hstep i o ho (putL L vs 0 l a) w' s r F.inv hfree hvals
  rw [hset]
  obtain ⟨ls, hls⟩ : ∃ ls : Nat → Bool, ls = fun j => L.getD j false := ⟨_, rfl⟩
  have hlsj : ∀ j, L.getD j false = ls j := fun j => by rw [hls]
  simp only [hlsj] at F ni hwt ⊢
  have hlt' : ∀ j, (decide (j = i) || ls j) = true → j < l.length := fun j hj => by
   simp only [Bool.or_eq_true, decide_eq_true_eq] at hj
   rcases hj with rfl | hj
   ·exact hi
   ·exact F.lt j hj
  have hcl : ∀ p j, (decide (j = i) || ls j) = true → waits l j p = true → (decide (p = i) || ls p) = true := fun p j hj hw => by
   simp only [Bool.or_eq_true, decide_eq_true_eq] at hj ⊢
   rcases hj with rfl | hj
   ·exact .inr (hwt p hw)
   ·exact .inr (F.closed p j hj hw)
  cases hk : ckAt ks i with
  | quiet v lim =>
   rw [hk] at hs
   have hle : s ≤ lim := by
    have h := hal i hi
    rw [hk] at h
    simp only [Bool.or_eq_true, decide_eq_true_eq] at h
    rcases h with h | h
    ·exact Nat.le_trans F.le h
    ·by_cases hlt : s ≤ lim
     ·exact hlt
     ·exfalso
      have hll : lim < st.length := by have := F.le; omega
      obtain ⟨j, e1, e2, e3, _⟩ := hstp lim hll
      rw [e1] at h
      have hlj := (F.steps j lim e2 e3).2 (by omega)
      rw [F.closed i j hlj h] at ni
      cases ni
   have hfin : ∃ v', (putL L vs 0 l a).put o.dst v = (putL L vs 0 l a).put o.dst v' ∧ ∃ s r, RC ks l l.length st.length I (fun j => decide (j = i) || ls j) (upd vs i v') s r w' := by
    refine ⟨v, rfl, s, r, hlt', ?_, ?_, F.inv, F.le, hcl⟩
    ·intro j t hj hjk
     have e : j ≠ i := fun e => by subst e; rw [hk] at hjk; cases hjk
     simpa [e] using F.steps j t hj hjk
    ·intro j hj
     by_cases e : j = i
     ·subst e; rw [upd_at, hk]; rfl
     ·rw [upd_ne e]; exact F.vals j (by simpa [e] using hj)
   rcases hs hle with ⟨hw, h⟩ | ⟨hw, hv⟩
   ·exact .inl ⟨hw, oper_wp_ok h hfin⟩
   ·exact .inr ⟨hw, by rw [← hv]; exact hfin⟩
  | step t =>
   rw [hk] at hs
   have hti := hst2 i t hi hk
   have htl : t < st.length := (List.getElem?_eq_some_iff.1 hti).1
   have hst' : s = t := by
    have h1 : ¬ t < s := fun h => by rw [(F.steps i t hi hk).2 h] at ni; cases ni
    by_cases h0 : t = 0
    ·omega
    ·obtain ⟨i', e1, e2, e3, e4⟩ := hstp t htl
     rw [hti] at e1
     injection e1 with e1
     subst e1
     obtain ⟨j, q1, q2⟩ := e4 (by omega)
     obtain ⟨j', r1, r2, r3, _⟩ := hstp (t - 1) (by omega)
     rw [q1] at r1
     injection r1 with r1
     subst r1
     have := (F.steps j (t - 1) r2 r3).1 (hwt j q2)
     omega
   subst hst'
   refine .inl ⟨by simp [Region.wanted, (hs rfl).1], Oper.wp_mono ?_ (hs rfl).2⟩
   rintro a'' w'' ⟨v, h1, h2⟩
   refine ⟨v, h1, s + 1, updR r s v, hlt', ?_, ?_, h2, htl, hcl⟩
   ·intro j t' hj hjk
    by_cases e : j = i
    ·subst e
     rw [hk] at hjk
     injection hjk with hjk
     subst hjk
     simp
    ·have h3 := F.steps j t' hj hjk
     have hne : t' ≠ s := fun e' => by
      subst e'
      have := hst2 j t' hj hjk
      rw [hti] at this
      injection this with this
      exact e this.symm
     simp only [e, decide_false, Bool.false_or]
     rw [h3]; omega
   ·intro j hj
    by_cases e : j = i
    ·subst e; rw [upd_at, hk]; exact (updR_at r s v).symm
    ·have hlj : ls j = true := by simpa [e] using hj
     rw [upd_ne e, F.vals j hlj]
     cases hkj : ckAt ks j with
     | quiet v' lim' => rfl
     | step t' =>
      have := (F.steps j t' (F.lt j hlj) hkj).1 hlj
      exact (updR_ne (by omega)).symm
 ·rintro L vs w' ⟨s, r, F⟩ hlst
  have hs : s = st.length := by
   by_cases h : s < st.length
   ·obtain ⟨i, e1, e2, e3, _⟩ := hstp s h
    have := (F.steps i s e2 e3).1 (hlst i e2)
    omega
   ·have := F.le; omega
  subst hs
  rw [putC_all L vs r l 0 ks a hlen (fun i hi => by rw [Nat.zero_add]; exact hlst i hi) (fun i hi => by rw [Nat.zero_add]; exact F.vals i (hlst i hi))]
  exact hend r w' F.inv
end
end Go.Proofs.YtnpaejknoipicagGreat
namespace Go.Proofs.YtnpaejknoipicagGreat
open Go.RowKit
def StayK (S : List Nat) (w : World) (P : World → Prop) : Prop := ∀ w', Kept S w w' → P w'
theorem StayK.now {S : List Nat} {w : World} {P : World → Prop} (h : StayK S w P) : P w := h w (Kept.refl _ _)
theorem StayK.step {S : List Nat} {w w' : World} {P : World → Prop} (h : StayK S w P) (hk : Kept S w w') : StayK S w' P := fun w'' h2 => h w'' (hk.trans h2)
theorem StayK.go {S : List Nat} {w w' : World} {P : World → Prop} (h : Hid (StayK S w P)) (hk : Below w.heap.size w w') : Hid (StayK S w' P) := StayK.step h ((Kept.refl _ _).below hk)
theorem StayK.goK {S : List Nat} {w w' : World} {P : World → Prop} (h : Hid (StayK S w P)) (hk : Kept S w w') : Hid (StayK S w' P) := StayK.step h hk
theorem StayK.allocE {S : List Nat} {w W : World} {P : World → Prop} {o : Obj} (h : Hid (StayK S w P)) (e : W = w.alloc o) : Hid (StayK S W P) := by subst e; exact StayK.step h ((Kept.refl _ _).alloc _)
theorem StayK.and {S : List Nat} {w : World} {P Q : World → Prop} (h : StayK S w P) (k : StayK S w Q) : StayK S w (fun U => P U ∧ Q U) := fun w' hb => ⟨h w' hb, k w' hb⟩
theorem Stay.toK {w W : World} {P : World → Prop} {o : Obj} (h : Stay w P) (e : W = w.alloc o) : StayK [w.heap.size] W P := by
 subst e
 intro w' hk
 refine h w' (((Below.refl _ w).alloc (Nat.le_refl _) o).trans ?_)
 exact hk.toBelow (by simp) (fun k hk => by simp at hk; omega)
theorem Kept.sameOn {S : List Nat} {X : Nat → Prop} {w w' : World} (h : Kept S w w') (hx : ∀ g, X g → g ∉ S) : SameOn X w w' := ⟨h.size, fun g hg hX => h.block g hg (hx g hX)⟩
theorem Blk.stayK {S : List Nat} {w : World} {b : Nat} {C : Array Value} {t : TypeId} (h : Blk w b C t) (hS : b ∉ S) : StayK S w (fun U => Blk U b C t) := fun _ hk => h.kept hk hS
theorem FrsIn.stayK {S : List Nat} {X : Nat → Prop} {w : World} {v : Value} {l : List Fr} (h : FrsIn X w v l) (hx : ∀ g, X g → g ∉ S) : StayK S w (fun U => FrsIn X U v l) := fun _ hk => h.to (hk.sameOn hx) fun _ _ h => h
theorem StrsIn.stayK {S : List Nat} {X : Nat → Prop} {w : World} {v : Value} {l : List ByteArray} (h : StrsIn X w v l) (hx : ∀ g, X g → g ∉ S) : StayK S w (fun U => StrsIn X U v l) := fun _ hk => h.to (hk.sameOn hx) fun _ _ h => h
theorem GrsIn.stayK {S : List Nat} {X : Nat → Prop} {w : World} {v : Value} {l : List (List Fr)} (h : GrsIn X w v l) (hx : ∀ g, X g → g ∉ S) : StayK S w (fun U => GrsIn X U v l) := fun _ hk => h.to (hk.sameOn hx) fun _ _ h => h
theorem Blk.put3 {w : World} {b : Nat} {x0 x1 x2 : Value} {t : TypeId} (h : Blk w b #[x0, x1, x2] t) (y0 y1 y2 : Value) : Blk (((w.setCell ⟨b, 0, none⟩ y0).setCell ⟨b, 1, none⟩ y1).setCell ⟨b, 2, none⟩ y2) b #[y0, y1, y2] t := ((h.set 0 y0).set 1 y1).set 2 y2
theorem Kept.put3 {S : List Nat} {a w : World} {b : Nat} (h : Kept S a w) (hb : b ∈ S) (y0 y1 y2 : Value) : Kept S a (((w.setCell ⟨b, 0, none⟩ y0).setCell ⟨b, 1, none⟩ y1).setCell ⟨b, 2, none⟩ y2) := ((h.setCell (p := ⟨b, 0, none⟩) hb y0).setCell (p := ⟨b, 1, none⟩) hb y1).setCell (p := ⟨b, 2, none⟩) hb y2
end Go.Proofs.YtnpaejknoipicagGreat
