/-
  The walk of switchbacklaw.CursorOrder.
-/
import Derived.Test.YtnpaejknoipicaeMgCursorOrder1
import Derived.Deep.RegionHeld3
import Derived.Test.YtnpaejknoipicaeBlocks
import Derived.Test.YtnpaejknoipicaeConcat
import Derived.Deep.DeepCutAuto

namespace Go.Proofs.Ytnpaejknoipicae
open Go.RowKit

set_option maxHeartbeats 8000000 in
set_option maxRecDepth 100000 in
theorem cursorBegun_any (w : World) :
    Calls Try.prog 14 #[] w fun e w' => e = .returned (.bool true) ∧ Below w.heap.size w w' := by
  have HN1 : Hid (∀ (U : World) (gb ob : Nat), GrsIn (fun _ => True) U (.slice (some ⟨gb, 0, none⟩) 2 2) shelfL → FrsIn (fun _ => True) U (.slice (some ⟨ob, 0, none⟩) 1 1) shelfO → Calls Try.prog 17 #[.agg #[.int .i64 3, .slice (some ⟨gb, 0, none⟩) 2 2, .slice (some ⟨ob, 0, none⟩) 1 1], .agg #[.int .i64 3, .int .i64 3, .int .i64 0], .int .i64 100] U fun e w' => ∃ pa pn pc, e = .returned (.tuple #[.agg #[.int .i64 3, .int .i64 3, .int .i64 1], .agg #[.int .i64 10, .bool true, .slice pa pn pc], .bool true, .bool false, .int .i64 0]) ∧ Below U.heap.size U w') := fun U gb ob h1 h2 => by
    refine (next_any 3 _ _ shelfL shelfO 3 3 0 100 U h1 h2).mono ?_
    obtain ⟨a1, a2, a3, a4, a5, a6, a7, a8⟩ := shelf_next1
    rw [a1, a2, a3, a4, a5, a6, a7, a8]
    rintro e w' ⟨pv, rfl, hp, hb⟩
    obtain ⟨pa, pc, ep⟩ := hp.1.len
    rw [ep]
    exact ⟨_, _, _, rfl, hb⟩
  have HN2 : Hid (∀ (U : World) (gb ob : Nat), GrsIn (fun _ => True) U (.slice (some ⟨gb, 0, none⟩) 2 2) shelfL → FrsIn (fun _ => True) U (.slice (some ⟨ob, 0, none⟩) 1 1) shelfO → Calls Try.prog 17 #[.agg #[.int .i64 3, .slice (some ⟨gb, 0, none⟩) 2 2, .slice (some ⟨ob, 0, none⟩) 1 1], .agg #[.int .i64 2, .int .i64 3, .int .i64 1], .int .i64 100] U fun e w' => ∃ pa pn pc, e = .returned (.tuple #[.agg #[.int .i64 2, .int .i64 3, .int .i64 1], .agg #[.int .i64 0, .bool false, .slice pa pn pc], .bool false, .bool false, .int .i64 0]) ∧ Below U.heap.size U w') := fun U gb ob h1 h2 => by
    refine (next_any 3 _ _ shelfL shelfO 2 3 1 100 U h1 h2).mono ?_
    obtain ⟨a1, a2, a3, a4, a5, a6, a7, a8⟩ := shelf_next2
    rw [a1, a2, a3, a4, a5, a6, a7, a8]
    rintro e w' ⟨pv, rfl, hp, hb⟩
    obtain ⟨pa, pc, ep⟩ := hp.1.len
    rw [ep]
    exact ⟨_, _, _, rfl, hb⟩
  have HSK : Hid (∀ (U : World) (gb ob : Nat), GrsIn (fun _ => True) U (.slice (some ⟨gb, 0, none⟩) 2 2) shelfL → FrsIn (fun _ => True) U (.slice (some ⟨ob, 0, none⟩) 1 1) shelfO → Calls Try.prog 20 #[.agg #[.int .i64 3, .slice (some ⟨gb, 0, none⟩) 2 2, .slice (some ⟨ob, 0, none⟩) 1 1], .int .i64 12] U fun e w' => e = .returned (.tuple #[.agg #[.int .i64 3, .int .i64 3, .int .i64 0], .int .i64 0]) ∧ Below U.heap.size U w') := fun U gb ob h1 h2 => by
    have := curSeek_any 3 _ _ shelfL shelfO 12 U h1 h2
    obtain ⟨a1, a2, a3⟩ := shelf_seek1
    rw [a1, a2, a3] at this
    exact this
  have HLV : Hid (∀ (U : World) (gb ob : Nat), GrsIn (fun _ => True) U (.slice (some ⟨gb, 0, none⟩) 2 2) shelfL → FrsIn (fun _ => True) U (.slice (some ⟨ob, 0, none⟩) 1 1) shelfO → Calls Try.prog 13 #[.agg #[.int .i64 3, .slice (some ⟨gb, 0, none⟩) 2 2, .slice (some ⟨ob, 0, none⟩) 1 1]] U fun e w' => e = .returned (.tuple #[.agg #[.int .i64 1, .int .i64 5, .int .i64 0], .int .i64 0]) ∧ Below U.heap.size U w') := fun U gb ob h1 h2 => by
    have := live_any 3 _ _ shelfL shelfO U h1 h2
    obtain ⟨a1, a2, a3⟩ := shelf_live
    rw [a1, a2, a3] at this
    exact this
  have HPA : Hid (∀ U : World, Calls Try.prog 21 #[.agg #[.int .i64 3, .int .i64 3, .int .i64 1]] U fun e w' => e = .returned (.tuple #[.agg #[.int .i64 2, .int .i64 3, .int .i64 1], .int .i64 0]) ∧ Below U.heap.size U w') := fun U => by
    have := pause_any 3 3 1 U
    rw [show curE 3 3 1 = 0 by kernel_rfl, show pauN 3 3 1 2 = 2 by kernel_rfl, show pauN 3 3 1 3 = 3 by kernel_rfl, show pauN 3 3 1 1 = 1 by kernel_rfl] at this
    exact this
  have HCC : Hid (∀ U : World, Calls Try.prog 26 #[.agg #[.int .i64 3, .int .i64 3, .int .i64 0]] U fun e w' => e = .returned (.int .i64 0) ∧ Below U.heap.size U w') := fun U => by
    have := curCheck_any 3 3 0 U
    rw [show curE 3 3 0 = 0 by kernel_rfl] at this
    exact this
  go_enter Try.func14, Try.ntmps14
  go_wp2_with fail
  refine (shelf_any _).mono ?_
  rintro e w1 ⟨gb, ob, rfl, G1, O1, b1⟩
  go_wp2_with fail
  refine (HSK.out _ _ _ G1 O1).mono ?_
  rintro e w2 ⟨rfl, b2⟩
  obtain ⟨W1, hW1⟩ : ∃ W1, W1 = w2.alloc (.cells #[.int .i64 3, .int .i64 3, .int .i64 0] 41) := ⟨_, rfl⟩
  obtain ⟨CB, hCB⟩ : ∃ n, n = w2.heap.size := ⟨_, rfl⟩
  have KC : Hid (Blk W1 CB #[.int .i64 3, .int .i64 3, .int .i64 0] 41) := by rw [hCB]; exact Blk.newE hW1
  have B1 : Hid (Below w.heap.size w W1) := by
    have h2 : Below w.heap.size w w2 := b1.trans (b2.mono b1.size)
    rw [hW1]; exact h2.alloc h2.size _
  clear b1 b2 G1 O1
  go_wp2_with fail
  rw [← hW1, ← hCB]
  clear hW1 hCB
  refine region_boxes (by kernel_rfl) (by kernel_rfl) [.step 0, .quiet (.agg #[.int .i64 3, .int .i64 3, .int .i64 0]) 4, .step 1, .fin 1 (fun r => r), .fin 1 (exT 0), .fin 1 (exT 1), .fin 1 (exT 2), .fin 1 (exT 3), .fin 1 (exT 4), .box, .box, .step 2, .step 3, .fin 1 (exT 2), .fin 1 (exT 3), .fin 1 (exT 4)] [0, 2, 11, 12] (by kernel_rfl)
    (NxI W1 3 3 1 10 true true false) ?i0 ?step ?fin
  case i0 => exact ⟨⟨rfl, rfl, rfl, Nat.le_refl _, fun _ _ => rfl⟩, fun _ hp => (by cases hp), fun _ hp => (by cases hp), fun h => (by omega), fun h => (by omega), fun h => (by omega), fun h => (by omega)⟩
  case step =>
    intro i o ho a' w' s r b hI hfree hvals hbx
    have f1 : a'.eval (.tmp 1) = .pointer (some ⟨CB, 0, none⟩) := (hfree 1 (by kernel_rfl)).trans rfl
    obtain ⟨y0, y1, y2⟩ := (KC.out.below hI.bel KC.out.lt).three
    have hR : 1 < s → ∃ pa pn pc, r 1 = .tuple #[.agg #[.int .i64 3, .int .i64 3, .int .i64 1], .agg #[.int .i64 10, .bool true, .slice pa pn pc], .bool true, .bool false, .int .i64 0] := fun hs => hI.two hs
    match i, ho with
    | 0, ho =>
      simp at ho; subst ho
      show s = 0 → _
      intro hs
      subst hs
      have ef : a'.eval (.func 37) = .func (.func 37) #[] #[] := rfl
      refine oper_wp_call (f := 37) (args := #[]) ?_ ((shelf_any w').mono ?_)
      · generalize a'.eval = ρ at *
        simp [execOp, go_sem, ef]
      · rintro e w'' ⟨gb, ob, rfl, q1, q2, b1⟩
        exact ⟨_, rfl, _, rfl, NxI.call hI (Nat.zero_le _) b1 _ ⟨gb, ob, rfl, q1, q2⟩⟩
    | 1, ho =>
      simp at ho; subst ho
      show s ≤ 4 → (execOp a'.eval _).run _ w' = .ok (.value _) w'
      intro _
      generalize a'.eval = ρ at *
      simp [execOp, go_sem, f1, y0, y1, y2]
    | 2, ho =>
      simp at ho; subst ho
      show s = 1 → _
      intro hs
      subst hs
      obtain ⟨gb, ob, er, q1, q2⟩ := hI.one rfl
      have e1 : a'.eval (.tmp 23) = .agg #[.int .i64 3, .slice (some ⟨gb, 0, none⟩) 2 2, .slice (some ⟨ob, 0, none⟩) 1 1] := (hvals 0 _ _ (by kernel_rfl) rfl rfl).trans er
      have e2 : a'.eval (.tmp 24) = .agg #[.int .i64 3, .int .i64 3, .int .i64 0] := hvals 1 _ _ (by kernel_rfl) rfl rfl
      have ef : a'.eval (.func 17) = .func (.func 17) #[] #[] := rfl
      have ec : ∀ v, a'.eval (.const v) = v := fun _ => rfl
      refine oper_wp_call (f := 17) (args := #[.agg #[.int .i64 3, .slice (some ⟨gb, 0, none⟩) 2 2, .slice (some ⟨ob, 0, none⟩) 1 1], .agg #[.int .i64 3, .int .i64 3, .int .i64 0], .int .i64 100]) ?_ ((HN1.out w' gb ob q1 q2).mono ?_)
      · generalize a'.eval = ρ at *
        simp [execOp, go_sem, e1, e2, ef, ec]
      · rintro e w'' ⟨pa, pn, pc, rfl, b1⟩
        exact ⟨_, rfl, _, rfl, NxI.call hI (Nat.le_refl _) b1 _ ⟨pa, pn, pc, rfl⟩⟩
    | 3, ho =>
      simp at ho; subst ho
      have e1 : a'.eval (.tmp 25) = r 1 := hvals 2 _ _ (by kernel_rfl) rfl rfl
      show 1 < s → (execOp a'.eval _).run _ w' = .ok (.value _) w'
      intro hs
      obtain ⟨pa, pn, pc, er⟩ := hR hs
      rw [er] at e1 ⊢
      generalize a'.eval = ρ at *
      simp [execOp, go_sem, e1]
    | 4, ho =>
      simp at ho; subst ho
      have e1 : a'.eval (.tmp 22) = r 1 := hvals 3 _ _ (by kernel_rfl) rfl rfl
      show 1 < s → (execOp a'.eval _).run _ w' = .ok (.value _) w'
      intro hs
      obtain ⟨pa, pn, pc, er⟩ := hR hs
      rw [er] at e1 ⊢
      simp only [exT] at e1 ⊢
      generalize a'.eval = ρ at *
      simp [execOp, go_sem, e1]
    | 5, ho =>
      simp at ho; subst ho
      have e1 : a'.eval (.tmp 22) = r 1 := hvals 3 _ _ (by kernel_rfl) rfl rfl
      show 1 < s → (execOp a'.eval _).run _ w' = .ok (.value _) w'
      intro hs
      obtain ⟨pa, pn, pc, er⟩ := hR hs
      rw [er] at e1 ⊢
      simp only [exT] at e1 ⊢
      generalize a'.eval = ρ at *
      simp [execOp, go_sem, e1]
    | 6, ho =>
      simp at ho; subst ho
      have e1 : a'.eval (.tmp 22) = r 1 := hvals 3 _ _ (by kernel_rfl) rfl rfl
      show 1 < s → (execOp a'.eval _).run _ w' = .ok (.value _) w'
      intro hs
      obtain ⟨pa, pn, pc, er⟩ := hR hs
      rw [er] at e1 ⊢
      simp only [exT] at e1 ⊢
      generalize a'.eval = ρ at *
      simp [execOp, go_sem, e1]
    | 7, ho =>
      simp at ho; subst ho
      have e1 : a'.eval (.tmp 22) = r 1 := hvals 3 _ _ (by kernel_rfl) rfl rfl
      show 1 < s → (execOp a'.eval _).run _ w' = .ok (.value _) w'
      intro hs
      obtain ⟨pa, pn, pc, er⟩ := hR hs
      rw [er] at e1 ⊢
      simp only [exT] at e1 ⊢
      generalize a'.eval = ρ at *
      simp [execOp, go_sem, e1]
    | 8, ho =>
      simp at ho; subst ho
      have e1 : a'.eval (.tmp 22) = r 1 := hvals 3 _ _ (by kernel_rfl) rfl rfl
      show 1 < s → (execOp a'.eval _).run _ w' = .ok (.value _) w'
      intro hs
      obtain ⟨pa, pn, pc, er⟩ := hR hs
      rw [er] at e1 ⊢
      simp only [exT] at e1 ⊢
      generalize a'.eval = ρ at *
      simp [execOp, go_sem, e1]
    | 9, ho =>
      simp at ho; subst ho
      show b 9 = none → _
      intro hb
      refine ⟨.cells #[.int .i64 0, .int .i64 0, .int .i64 0] 41, ?_, hI.box9 hb⟩
      generalize a'.eval = ρ at *
      simp [execOp, go_sem]
    | 10, ho =>
      simp at ho; subst ho
      show b 10 = none → _
      intro hb
      refine ⟨.cells #[.int .i64 0, .bool false, .slice none 0 0] 39, ?_, hI.box10 hb⟩
      generalize a'.eval = ρ at *
      simp [execOp, go_sem]
    | 11, ho =>
      simp at ho; subst ho
      show s = 2 → _
      intro hs
      subst hs
      obtain ⟨pa, pn, pc, er⟩ := hR (by omega)
      obtain ⟨p, hp⟩ := Option.isSome_iff_exists.1 (hbx 9 (by kernel_rfl) rfl)
      obtain ⟨g1, g2, g3, _⟩ := hI.nine p hp
      have kg := g3 (Nat.le_refl _)
      have e1 : a'.eval (.tmp 3) = .pointer (some ⟨p, 0, none⟩) := (hvals 9 _ _ (by kernel_rfl) rfl rfl).trans (by show Cm.out r b 9 .box = _; simp [Cm.out, hp])
      have e2 : a'.eval (.tmp 26) = .agg #[.int .i64 3, .int .i64 3, .int .i64 1] := (hvals 4 _ _ (by kernel_rfl) rfl rfl).trans (by show exT 0 (r 1) = _; rw [er]; rfl)
      obtain ⟨t0, t1, t2⟩ := kg.three
      have fr := kg.free
      refine oper_wp_skip (w' := ((w'.setCell ⟨p, 0, none⟩ (.int .i64 3)).setCell ⟨p, 1, none⟩ (.int .i64 3)).setCell ⟨p, 2, none⟩ (.int .i64 1)) ?_ ⟨_, rfl, ?_⟩
      · generalize a'.eval = ρ at *
        simp [execOp, go_sem, e1, e2, t0, t1, t2, fr]
      · exact NxI.put9 hI hp _
    | 12, ho =>
      simp at ho; subst ho
      show s = 3 → _
      intro hs
      subst hs
      obtain ⟨pa, pn, pc, er⟩ := hR (by omega)
      obtain ⟨p, hp⟩ := Option.isSome_iff_exists.1 (hbx 10 (by kernel_rfl) rfl)
      obtain ⟨g1, g3, _⟩ := hI.ten p hp
      have kg := g3 (Nat.le_refl _)
      have e1 : a'.eval (.tmp 4) = .pointer (some ⟨p, 0, none⟩) := (hvals 10 _ _ (by kernel_rfl) rfl rfl).trans (by show Cm.out r b 10 .box = _; simp [Cm.out, hp])
      have e2 : a'.eval (.tmp 27) = .agg #[.int .i64 10, .bool true, .slice pa pn pc] := (hvals 5 _ _ (by kernel_rfl) rfl rfl).trans (by show exT 1 (r 1) = _; rw [er]; rfl)
      obtain ⟨t0, t1, t2⟩ := kg.three
      have fr := kg.free
      refine oper_wp_skip (w' := ((w'.setCell ⟨p, 0, none⟩ (.int .i64 10)).setCell ⟨p, 1, none⟩ (.bool true)).setCell ⟨p, 2, none⟩ (.slice pa pn pc)) ?_ ⟨_, rfl, ?_⟩
      · generalize a'.eval = ρ at *
        simp [execOp, go_sem, e1, e2, t0, t1, t2, fr]
      · exact NxI.put10 hI hp _ _
    | 13, ho =>
      simp at ho; subst ho
      have e1 : a'.eval (.tmp 28) = exT 2 (r 1) := hvals 6 _ _ (by kernel_rfl) rfl rfl
      show 1 < s → (execOp a'.eval _).run _ w' = .ok (.value _) w'
      intro hs
      obtain ⟨pa, pn, pc, er⟩ := hR hs
      rw [er] at e1 ⊢
      simp only [exT] at e1 ⊢
      generalize a'.eval = ρ at *
      simp [execOp, go_sem, e1]
    | 14, ho =>
      simp at ho; subst ho
      have e1 : a'.eval (.tmp 29) = exT 3 (r 1) := hvals 7 _ _ (by kernel_rfl) rfl rfl
      show 1 < s → (execOp a'.eval _).run _ w' = .ok (.value _) w'
      intro hs
      obtain ⟨pa, pn, pc, er⟩ := hR hs
      rw [er] at e1 ⊢
      simp only [exT] at e1 ⊢
      generalize a'.eval = ρ at *
      simp [execOp, go_sem, e1]
    | 15, ho =>
      simp at ho; subst ho
      have e1 : a'.eval (.tmp 30) = exT 4 (r 1) := hvals 8 _ _ (by kernel_rfl) rfl rfl
      show 1 < s → (execOp a'.eval _).run _ w' = .ok (.value _) w'
      intro hs
      obtain ⟨pa, pn, pc, er⟩ := hR hs
      rw [er] at e1 ⊢
      simp only [exT] at e1 ⊢
      generalize a'.eval = ρ at *
      simp [execOp, go_sem, e1]
    | i + 16, ho => simp at ho
  case fin =>
    rintro r b W hI hbxs
    obtain ⟨p, hp⟩ := hbxs 9 (by decide) rfl
    obtain ⟨q, hq⟩ := hbxs 10 (by decide) rfl
    obtain ⟨pa, pn, pc, er⟩ := hI.two (by decide)
    obtain ⟨n1, n2, _, n4⟩ := hI.nine p hp
    obtain ⟨m1, _, m3⟩ := hI.ten q hq
    have KD : Hid (Blk W p #[.int .i64 3, .int .i64 3, .int .i64 1] 41) := n4 (by decide)
    obtain ⟨pv, hpv⟩ := m3 (by decide)
    have KF : Hid (Blk W q #[.int .i64 10, .bool true, pv] 39) := hpv
    have HBW : Hid (Below W1.heap.size W1 W) := hI.bel
    simp only [putM, Cm.out, er, hp, hq, exT, Act.put, List.setIfInBounds_toArray, List.set_cons_succ, List.set_cons_zero, List.getElem?_toArray, List.getElem?_cons_zero, List.getElem?_cons_succ, Option.getD_some]
    clear hI hbxs hp hq er n1 n2 n4 m1 m3 hpv
    have KC2 : Hid (Blk W CB #[.int .i64 3, .int .i64 3, .int .i64 0] 41) := KC.out.below HBW.out KC.out.lt
    have HS := (((KC2.out.stay).and ((KD.out.stay).and KF.out.stay)).and (below_stay (B1.out.trans (HBW.out.mono B1.out.size)) (by have := B1.out.size; have := HBW.out.size; omega))).hid
    clear KC KC2 KD KF HBW B1 HN1 HSK
    go_wp2_with fail
    refine (shelf_any _).mono ?_
    rintro e w3 ⟨gb, ob, rfl, G1, O1, b1⟩
    have HS1 := Stay.go HS b1
    go_wp2_with fail
    refine (HLV.out _ _ _ G1 O1).mono ?_
    rintro e w4 ⟨rfl, b2⟩
    obtain ⟨W4, hW4⟩ : ∃ W4, W4 = w4.alloc (.cells #[.int .i64 1, .int .i64 5, .int .i64 0] 41) := ⟨_, rfl⟩
    obtain ⟨LB, hLB⟩ : ∃ n, n = w4.heap.size := ⟨_, rfl⟩
    have HS2 := (HS1.out.step b2).allocE hW4
    have HL2 : Hid (Stay W4 (fun U => Blk U LB #[.int .i64 1, .int .i64 5, .int .i64 0] 41)) := by rw [hLB]; exact (Blk.newE hW4).stay
    obtain ⟨k0, k1, k2⟩ := HS2.out.now.1.2.1.three
    clear b1 b2 G1 O1 HS HS1 HLV
    subst hW4
    go_wp2_with fail
    rw [← hLB]
    refine (HPA.out _).mono ?_
    rintro e w5 ⟨rfl, b5⟩
    obtain ⟨W5, hW5⟩ : ∃ W5, W5 = w5.alloc (.cells #[.int .i64 2, .int .i64 3, .int .i64 1] 41) := ⟨_, rfl⟩
    obtain ⟨PB, hPB⟩ : ∃ n, n = w5.heap.size := ⟨_, rfl⟩
    have HS3 := (HS2.out.step b5).allocE hW5
    have HL3 := (HL2.out.step b5).allocE hW5
    have KPB : Hid (Blk W5 PB #[.int .i64 2, .int .i64 3, .int .i64 1] 41) := by rw [hPB]; exact Blk.newE hW5
    clear b5 HS2 HL2 k0 k1 k2 HPA hLB
    go_wp2_with fail
    rw [← hW5, ← hPB]
    clear hW5 hPB
    refine region_boxes (by kernel_rfl) (by kernel_rfl) [.step 0, .quiet (.agg #[.int .i64 2, .int .i64 3, .int .i64 1]) 4, .step 1, .fin 1 (fun r => r), .fin 1 (exT 0), .fin 1 (exT 1), .fin 1 (exT 2), .fin 1 (exT 3), .fin 1 (exT 4), .box, .box, .step 2, .step 3, .fin 1 (exT 2), .fin 1 (exT 3), .fin 1 (exT 4)] [0, 2, 11, 12] (by kernel_rfl)
      (NxI W5 2 3 1 0 false false false) ?i0 ?step ?fin
    case i0 => exact ⟨⟨rfl, rfl, rfl, Nat.le_refl _, fun _ _ => rfl⟩, fun _ hp => (by cases hp), fun _ hp => (by cases hp), fun h => (by omega), fun h => (by omega), fun h => (by omega), fun h => (by omega)⟩
    case step =>
      intro i o ho a' w' s r b hI hfree hvals hbx
      have f1 : a'.eval (.tmp 10) = .pointer (some ⟨PB, 0, none⟩) := (hfree 10 (by kernel_rfl)).trans rfl
      obtain ⟨y0, y1, y2⟩ := (KPB.out.below hI.bel KPB.out.lt).three
      have hR : 1 < s → ∃ pa pn pc, r 1 = .tuple #[.agg #[.int .i64 2, .int .i64 3, .int .i64 1], .agg #[.int .i64 0, .bool false, .slice pa pn pc], .bool false, .bool false, .int .i64 0] := fun hs => hI.two hs
      match i, ho with
      | 0, ho =>
        simp at ho; subst ho
        show s = 0 → _
        intro hs
        subst hs
        have ef : a'.eval (.func 37) = .func (.func 37) #[] #[] := rfl
        refine oper_wp_call (f := 37) (args := #[]) ?_ ((shelf_any w').mono ?_)
        · generalize a'.eval = ρ at *
          simp [execOp, go_sem, ef]
        · rintro e w'' ⟨gb, ob, rfl, q1, q2, b1⟩
          exact ⟨_, rfl, _, rfl, NxI.call hI (Nat.zero_le _) b1 _ ⟨gb, ob, rfl, q1, q2⟩⟩
      | 1, ho =>
        simp at ho; subst ho
        show s ≤ 4 → (execOp a'.eval _).run _ w' = .ok (.value _) w'
        intro _
        generalize a'.eval = ρ at *
        simp [execOp, go_sem, f1, y0, y1, y2]
      | 2, ho =>
        simp at ho; subst ho
        show s = 1 → _
        intro hs
        subst hs
        obtain ⟨gb, ob, er, q1, q2⟩ := hI.one rfl
        have e1 : a'.eval (.tmp 42) = .agg #[.int .i64 3, .slice (some ⟨gb, 0, none⟩) 2 2, .slice (some ⟨ob, 0, none⟩) 1 1] := (hvals 0 _ _ (by kernel_rfl) rfl rfl).trans er
        have e2 : a'.eval (.tmp 43) = .agg #[.int .i64 2, .int .i64 3, .int .i64 1] := hvals 1 _ _ (by kernel_rfl) rfl rfl
        have ef : a'.eval (.func 17) = .func (.func 17) #[] #[] := rfl
        have ec : ∀ v, a'.eval (.const v) = v := fun _ => rfl
        refine oper_wp_call (f := 17) (args := #[.agg #[.int .i64 3, .slice (some ⟨gb, 0, none⟩) 2 2, .slice (some ⟨ob, 0, none⟩) 1 1], .agg #[.int .i64 2, .int .i64 3, .int .i64 1], .int .i64 100]) ?_ ((HN2.out w' gb ob q1 q2).mono ?_)
        · generalize a'.eval = ρ at *
          simp [execOp, go_sem, e1, e2, ef, ec]
        · rintro e w'' ⟨pa, pn, pc, rfl, b1⟩
          exact ⟨_, rfl, _, rfl, NxI.call hI (Nat.le_refl _) b1 _ ⟨pa, pn, pc, rfl⟩⟩
      | 3, ho =>
        simp at ho; subst ho
        have e1 : a'.eval (.tmp 44) = r 1 := hvals 2 _ _ (by kernel_rfl) rfl rfl
        show 1 < s → (execOp a'.eval _).run _ w' = .ok (.value _) w'
        intro hs
        obtain ⟨pa, pn, pc, er⟩ := hR hs
        rw [er] at e1 ⊢
        generalize a'.eval = ρ at *
        simp [execOp, go_sem, e1]
      | 4, ho =>
        simp at ho; subst ho
        have e1 : a'.eval (.tmp 41) = r 1 := hvals 3 _ _ (by kernel_rfl) rfl rfl
        show 1 < s → (execOp a'.eval _).run _ w' = .ok (.value _) w'
        intro hs
        obtain ⟨pa, pn, pc, er⟩ := hR hs
        rw [er] at e1 ⊢
        simp only [exT] at e1 ⊢
        generalize a'.eval = ρ at *
        simp [execOp, go_sem, e1]
      | 5, ho =>
        simp at ho; subst ho
        have e1 : a'.eval (.tmp 41) = r 1 := hvals 3 _ _ (by kernel_rfl) rfl rfl
        show 1 < s → (execOp a'.eval _).run _ w' = .ok (.value _) w'
        intro hs
        obtain ⟨pa, pn, pc, er⟩ := hR hs
        rw [er] at e1 ⊢
        simp only [exT] at e1 ⊢
        generalize a'.eval = ρ at *
        simp [execOp, go_sem, e1]
      | 6, ho =>
        simp at ho; subst ho
        have e1 : a'.eval (.tmp 41) = r 1 := hvals 3 _ _ (by kernel_rfl) rfl rfl
        show 1 < s → (execOp a'.eval _).run _ w' = .ok (.value _) w'
        intro hs
        obtain ⟨pa, pn, pc, er⟩ := hR hs
        rw [er] at e1 ⊢
        simp only [exT] at e1 ⊢
        generalize a'.eval = ρ at *
        simp [execOp, go_sem, e1]
      | 7, ho =>
        simp at ho; subst ho
        have e1 : a'.eval (.tmp 41) = r 1 := hvals 3 _ _ (by kernel_rfl) rfl rfl
        show 1 < s → (execOp a'.eval _).run _ w' = .ok (.value _) w'
        intro hs
        obtain ⟨pa, pn, pc, er⟩ := hR hs
        rw [er] at e1 ⊢
        simp only [exT] at e1 ⊢
        generalize a'.eval = ρ at *
        simp [execOp, go_sem, e1]
      | 8, ho =>
        simp at ho; subst ho
        have e1 : a'.eval (.tmp 41) = r 1 := hvals 3 _ _ (by kernel_rfl) rfl rfl
        show 1 < s → (execOp a'.eval _).run _ w' = .ok (.value _) w'
        intro hs
        obtain ⟨pa, pn, pc, er⟩ := hR hs
        rw [er] at e1 ⊢
        simp only [exT] at e1 ⊢
        generalize a'.eval = ρ at *
        simp [execOp, go_sem, e1]
      | 9, ho =>
        simp at ho; subst ho
        show b 9 = none → _
        intro hb
        refine ⟨.cells #[.int .i64 0, .int .i64 0, .int .i64 0] 41, ?_, hI.box9 hb⟩
        generalize a'.eval = ρ at *
        simp [execOp, go_sem]
      | 10, ho =>
        simp at ho; subst ho
        show b 10 = none → _
        intro hb
        refine ⟨.cells #[.int .i64 0, .bool false, .slice none 0 0] 39, ?_, hI.box10 hb⟩
        generalize a'.eval = ρ at *
        simp [execOp, go_sem]
      | 11, ho =>
        simp at ho; subst ho
        show s = 2 → _
        intro hs
        subst hs
        obtain ⟨pa, pn, pc, er⟩ := hR (by omega)
        obtain ⟨p, hp⟩ := Option.isSome_iff_exists.1 (hbx 9 (by kernel_rfl) rfl)
        obtain ⟨g1, g2, g3, _⟩ := hI.nine p hp
        have kg := g3 (Nat.le_refl _)
        have e1 : a'.eval (.tmp 12) = .pointer (some ⟨p, 0, none⟩) := (hvals 9 _ _ (by kernel_rfl) rfl rfl).trans (by show Cm.out r b 9 .box = _; simp [Cm.out, hp])
        have e2 : a'.eval (.tmp 45) = .agg #[.int .i64 2, .int .i64 3, .int .i64 1] := (hvals 4 _ _ (by kernel_rfl) rfl rfl).trans (by show exT 0 (r 1) = _; rw [er]; rfl)
        obtain ⟨t0, t1, t2⟩ := kg.three
        have fr := kg.free
        refine oper_wp_skip (w' := ((w'.setCell ⟨p, 0, none⟩ (.int .i64 2)).setCell ⟨p, 1, none⟩ (.int .i64 3)).setCell ⟨p, 2, none⟩ (.int .i64 1)) ?_ ⟨_, rfl, ?_⟩
        · generalize a'.eval = ρ at *
          simp [execOp, go_sem, e1, e2, t0, t1, t2, fr]
        · exact NxI.put9 hI hp _
      | 12, ho =>
        simp at ho; subst ho
        show s = 3 → _
        intro hs
        subst hs
        obtain ⟨pa, pn, pc, er⟩ := hR (by omega)
        obtain ⟨p, hp⟩ := Option.isSome_iff_exists.1 (hbx 10 (by kernel_rfl) rfl)
        obtain ⟨g1, g3, _⟩ := hI.ten p hp
        have kg := g3 (Nat.le_refl _)
        have e1 : a'.eval (.tmp 13) = .pointer (some ⟨p, 0, none⟩) := (hvals 10 _ _ (by kernel_rfl) rfl rfl).trans (by show Cm.out r b 10 .box = _; simp [Cm.out, hp])
        have e2 : a'.eval (.tmp 46) = .agg #[.int .i64 0, .bool false, .slice pa pn pc] := (hvals 5 _ _ (by kernel_rfl) rfl rfl).trans (by show exT 1 (r 1) = _; rw [er]; rfl)
        obtain ⟨t0, t1, t2⟩ := kg.three
        have fr := kg.free
        refine oper_wp_skip (w' := ((w'.setCell ⟨p, 0, none⟩ (.int .i64 0)).setCell ⟨p, 1, none⟩ (.bool false)).setCell ⟨p, 2, none⟩ (.slice pa pn pc)) ?_ ⟨_, rfl, ?_⟩
        · generalize a'.eval = ρ at *
          simp [execOp, go_sem, e1, e2, t0, t1, t2, fr]
        · exact NxI.put10 hI hp _ _
      | 13, ho =>
        simp at ho; subst ho
        have e1 : a'.eval (.tmp 47) = exT 2 (r 1) := hvals 6 _ _ (by kernel_rfl) rfl rfl
        show 1 < s → (execOp a'.eval _).run _ w' = .ok (.value _) w'
        intro hs
        obtain ⟨pa, pn, pc, er⟩ := hR hs
        rw [er] at e1 ⊢
        simp only [exT] at e1 ⊢
        generalize a'.eval = ρ at *
        simp [execOp, go_sem, e1]
      | 14, ho =>
        simp at ho; subst ho
        have e1 : a'.eval (.tmp 48) = exT 3 (r 1) := hvals 7 _ _ (by kernel_rfl) rfl rfl
        show 1 < s → (execOp a'.eval _).run _ w' = .ok (.value _) w'
        intro hs
        obtain ⟨pa, pn, pc, er⟩ := hR hs
        rw [er] at e1 ⊢
        simp only [exT] at e1 ⊢
        generalize a'.eval = ρ at *
        simp [execOp, go_sem, e1]
      | 15, ho =>
        simp at ho; subst ho
        have e1 : a'.eval (.tmp 49) = exT 4 (r 1) := hvals 8 _ _ (by kernel_rfl) rfl rfl
        show 1 < s → (execOp a'.eval _).run _ w' = .ok (.value _) w'
        intro hs
        obtain ⟨pa, pn, pc, er⟩ := hR hs
        rw [er] at e1 ⊢
        simp only [exT] at e1 ⊢
        generalize a'.eval = ρ at *
        simp [execOp, go_sem, e1]
      | i + 16, ho => simp at ho
    case fin =>
      rintro r b Y hI hbxs
      obtain ⟨p, hp⟩ := hbxs 9 (by decide) rfl
      obtain ⟨q, hq⟩ := hbxs 10 (by decide) rfl
      obtain ⟨pa, pn, pc, er⟩ := hI.two (by decide)
      obtain ⟨n1, n2, _, n4⟩ := hI.nine p hp
      obtain ⟨m1, _, m3⟩ := hI.ten q hq
      have KD5 : Hid (Blk Y p #[.int .i64 2, .int .i64 3, .int .i64 1] 41) := n4 (by decide)
      obtain ⟨pv, hpv⟩ := m3 (by decide)
      have KF5 : Hid (Blk Y q #[.int .i64 0, .bool false, pv] 39) := hpv
      have HBY : Hid (Below W5.heap.size W5 Y) := hI.bel
      simp only [putM, Cm.out, er, hp, hq, exT, Act.put, List.setIfInBounds_toArray, List.set_cons_succ, List.set_cons_zero, List.getElem?_toArray, List.getElem?_cons_zero, List.getElem?_cons_succ, Option.getD_some]
      clear hI hbxs hp hq er n1 n2 n4 m1 m3 hpv
      have HS4 := Stay.go HS3 HBY.out
      have HL4 := Stay.go HL3 HBY.out
      have HP4 : Hid (Stay Y (fun U => Blk U PB #[.int .i64 2, .int .i64 3, .int .i64 1] 41)) := (KPB.out.below HBY.out KPB.out.lt).stay
      clear HS3 HL3 KPB KD5 KF5 HBY HN2
      obtain ⟨k0, k1, k2⟩ := HS4.out.now.1.1.three
      go_wp2_with fail
      refine (HCC.out _).mono ?_
      rintro e w8 ⟨rfl, b8⟩
      have HS5 := Stay.go HS4 b8
      obtain ⟨k0, k1, k2⟩ := HS5.out.now.1.1.three
      obtain ⟨d0, d1, d2⟩ := HS5.out.now.1.2.1.three
      obtain ⟨g0, g1, g2⟩ := HS5.out.now.1.2.2.three
      obtain ⟨l0, l1, l2⟩ := (HL4.out.step b8).now.three
      obtain ⟨p0, p1, p2⟩ := (HP4.out.step b8).now.three
      clear b8 HS4 HL4 HP4
      go_wp2
      go_ret
      exact ⟨rfl, HS5.out.now.2⟩

end Go.Proofs.Ytnpaejknoipicae

namespace Go.Proofs.Ytnpaejknoipicae
open Go.RowKit

theorem heldB {W X Y : World} {a b : Addr} {u v : Value} (h : X.cell? a = some u ∧ X.cell? b = some v ∧ Below W.heap.size W X) (k : Below X.heap.size X Y) : Y.cell? a = some u ∧ Y.cell? b = some v ∧ Below W.heap.size W Y :=
  ⟨(k.cell (block_lt_of_cell h.1)).trans h.1, (k.cell (block_lt_of_cell h.2.1)).trans h.2.1, h.2.2.trans (k.mono h.2.2.size)⟩

set_option maxHeartbeats 8000000 in
set_option maxRecDepth 100000 in
theorem storeBegun_any (w : World) :
    Calls Try.prog 15 #[] w fun e w' => e = .returned (.bool true) ∧ Below w.heap.size w w' := by
  have HSH : Hid (∀ U : World, Calls Try.prog 37 #[] U fun e w' => ∃ gb ob, e = .returned (.agg #[.int .i64 3, .slice (some ⟨gb, 0, none⟩) 2 2, .slice (some ⟨ob, 0, none⟩) 1 1]) ∧ Hid (GrsIn (fun _ => True) w' (.slice (some ⟨gb, 0, none⟩) 2 2) shelfL) ∧ Hid (FrsIn (fun _ => True) w' (.slice (some ⟨ob, 0, none⟩) 1 1) shelfO) ∧ Below U.heap.size U w') := shelf_any
  go_enter Try.func15, Try.ntmps15
  go_wp2_with fail
  refine (HSH.out _).mono ?_
  rintro e w1 ⟨g1, o1, rfl, G1, O1, b1⟩
  go_wp2_with fail
  refine (pic_any _ _ _).mono ?_
  rintro e w2 ⟨rfl, S2, b2⟩
  go_wp2_with fail
  have A1 := storeAdd_any 3 (.slice (some ⟨g1, 0, none⟩) 2 2) (.slice (some ⟨o1, 0, none⟩) 1 1) (.slice (some ⟨w1.heap.size + 1, 0, none⟩) 1 1) shelfL shelfO (picF 40 true) w2 (G1.out.below b2) (O1.out.below b2) (S2.mono fun _ _ _ => trivial)
  rw [shelf_addE, shelf_addB] at A1
  refine A1.mono ?_
  rintro e w3 ⟨gv, ov, rfl, hgv, hov, b3⟩
  obtain ⟨va, vc, ev, _, _⟩ := hgv.len
  rw [shelf_addL] at ev
  obtain ⟨qa, qc, eq, _, _⟩ := hov.len
  subst ev eq
  obtain ⟨F, hF⟩ : ∃ F, F = addsF 3 shelfL shelfO (picF 40 true) := ⟨_, rfl⟩
  obtain ⟨nq, hnq⟩ : ∃ n, n = (addsO 3 shelfL shelfO (picF 40 true)).length := ⟨_, rfl⟩
  rw [← hF, ← hnq]
  clear hF hgv hov A1 hnq
  have B3 : Below w.heap.size w w3 := (b1.trans (b2.mono b1.size)).trans (b3.mono (by have := b1.size; have := b2.size; omega))
  obtain ⟨W4, hW4⟩ : ∃ W4, W4 = w3.alloc (.cells #[.int .i64 F, .slice va 3 vc, .slice qa nq qc] 36) := ⟨_, rfl⟩
  have K4 : Hid (Blk W4 w3.heap.size #[.int .i64 F, .slice va 3 vc, .slice qa nq qc] 36) := by rw [hW4]; exact Blk.new _ _ _
  have B4 : Hid (Below w.heap.size w W4) := by rw [hW4]; exact B3.alloc B3.size _
  clear b1 b2 b3 B3 G1 O1 S2
  go_wp2_with fail
  rw [← hW4]
  clear hW4
  refine (HSH.out _).mono ?_
  rintro e w5 ⟨g5, o5, rfl, G5, O5, b5⟩
  have K5 : Hid (Blk w5 w3.heap.size #[.int .i64 F, .slice va 3 vc, .slice qa nq qc] 36) := K4.out.below b5 K4.out.lt
  have B5 : Hid (Below w.heap.size w w5) := B4.out.trans (b5.mono B4.out.size)
  clear b5 K4 B4
  have A5 := storeSeek_any 3 (.slice (some ⟨g5, 0, none⟩) 2 2) (.slice (some ⟨o5, 0, none⟩) 1 1) shelfL shelfO 25 w5 G5.out O5.out
  rw [shelf_seekE, shelf_seekN] at A5
  go_wp2_with fail
  refine A5.mono ?_
  rintro e w6 ⟨rfl, b6⟩
  have K6 : Hid (Blk w6 w3.heap.size #[.int .i64 F, .slice va 3 vc, .slice qa nq qc] 36) := K5.out.below b6 K5.out.lt
  have B6 : Hid (Below w.heap.size w w6) := B5.out.trans (b6.mono B5.out.size)
  clear b6 K5 B5 A5 G5 O5
  go_wp2_with fail
  refine (HSH.out _).mono ?_
  rintro e w7 ⟨g7, o7, rfl, G7, O7, b7⟩
  have A7 := storeGet_any 3 (.slice (some ⟨g7, 0, none⟩) 2 2) (.slice (some ⟨o7, 0, none⟩) 1 1) shelfL shelfO 5 w7 G7.out O7.out (by omega)
  rw [shelf_get5E, shelf_get5G, show shelfO.length = 1 from rfl] at A7
  have K7 : Hid (Blk w7 w3.heap.size #[.int .i64 F, .slice va 3 vc, .slice qa nq qc] 36) := K6.out.below b7 K6.out.lt
  have B7 : Hid (Below w.heap.size w w7) := B6.out.trans (b7.mono B6.out.size)
  clear b7 K6 B6
  go_wp2_with fail
  refine A7.mono ?_
  rintro e w8 ⟨a8, c8, rfl, F8, b8⟩
  obtain ⟨W9, hW9⟩ : ∃ W9, W9 = w8.alloc (.cells #[.slice a8 1 c8] 34) := ⟨_, rfl⟩
  have bb9 : Below w7.heap.size w7 W9 := by rw [hW9]; exact b8.alloc b8.size _
  have K9 : Hid (Blk W9 w3.heap.size #[.int .i64 F, .slice va 3 vc, .slice qa nq qc] 36) := K7.out.below bb9 K7.out.lt
  have J9 : Hid (Blk W9 w8.heap.size #[.slice a8 1 c8] 34) := by rw [hW9]; exact Blk.new _ _ _
  have F9 : Hid (FrsIn (fun _ => True) W9 (.slice a8 1 c8) shelfO) := by rw [hW9]; exact F8.alloc _
  have B9 : Hid (Below w.heap.size w W9) := B7.out.trans (bb9.mono B7.out.size)
  clear b8 bb9 K7 B7 A7 G7 O7 F8
  go_wp2_with fail
  rw [← hW9]
  clear hW9
  refine (HSH.out _).mono ?_
  rintro e w10 ⟨g10, o10, rfl, G10, O10, b10⟩
  have A10 := storeGet_any 3 (.slice (some ⟨g10, 0, none⟩) 2 2) (.slice (some ⟨o10, 0, none⟩) 1 1) shelfL shelfO 6 w10 G10.out O10.out (by omega)
  rw [shelf_get6E, shelf_get6G, show ([] : List Fr).length = 0 from rfl] at A10
  have K10 : Hid (Blk w10 w3.heap.size #[.int .i64 F, .slice va 3 vc, .slice qa nq qc] 36) := K9.out.below b10 K9.out.lt
  have J10 : Hid (Blk w10 w8.heap.size #[.slice a8 1 c8] 34) := J9.out.below b10 J9.out.lt
  have F10 : Hid (FrsIn (fun _ => True) w10 (.slice a8 1 c8) shelfO) := F9.out.below b10
  have B10 : Hid (Below w.heap.size w w10) := B9.out.trans (b10.mono B9.out.size)
  clear b10 K9 J9 F9 B9
  go_wp2_with fail
  refine A10.mono ?_
  rintro e w11 ⟨a11, c11, rfl, _, b11⟩
  obtain ⟨W, hW⟩ : ∃ W, W = w11.alloc (.cells #[.slice a11 0 c11] 34) := ⟨_, rfl⟩
  have bW : Below w10.heap.size w10 W := by rw [hW]; exact b11.alloc b11.size _
  have KW : Hid (Blk W w3.heap.size #[.int .i64 F, .slice va 3 vc, .slice qa nq qc] 36) := K10.out.below bW K10.out.lt
  have JW : Hid (Blk W w8.heap.size #[.slice a8 1 c8] 34) := J10.out.below bW J10.out.lt
  have FW : Hid (FrsIn (fun _ => True) W (.slice a8 1 c8) shelfO) := F10.out.below bW
  have BW : Hid (Below w.heap.size w W) := B10.out.trans (bW.mono B10.out.size)
  clear b11 bW K10 J10 F10 B10 A10 G10 O10
  go_wp2_with fail
  rw [← hW]
  clear hW
  obtain ⟨k0, k1, k2⟩ := KW.out.three
  have j0 := JW.out.one
  have HCK : Hid (∀ (U : World) (gb ob : Nat), GrsIn (fun _ => True) U (.slice (some ⟨gb, 0, none⟩) 2 2) shelfL → FrsIn (fun _ => True) U (.slice (some ⟨ob, 0, none⟩) 1 1) shelfO → Calls Try.prog 40 #[.agg #[.int .i64 3, .slice (some ⟨gb, 0, none⟩) 2 2, .slice (some ⟨ob, 0, none⟩) 1 1]] U fun e w' => e = .returned (.int .i64 0) ∧ Below U.heap.size U w') := fun U gb ob h1 h2 => by
    have := storeCheck_any _ 3 _ _ shelfL shelfO U h1 h2
    rw [shelf_chk] at this
    exact this
  have hfd : ∀ (g o : Nat) (U : World), (Instr.field 36 (.agg #[.int .i64 3, .slice (some ⟨g, 0, none⟩) 2 2, .slice (some ⟨o, 0, none⟩) 1 1]) 2).run Try.prog U = .ok (.agg #[.slice (some ⟨o, 0, none⟩) 1 1]) U := fun g o U => by kernel_rfl
  have hfe : ∀ (o : Nat) (U : World), (Instr.field 34 (.agg #[.slice (some ⟨o, 0, none⟩) 1 1]) 0).run Try.prog U = .ok (.slice (some ⟨o, 0, none⟩) 1 1) U := fun o U => by kernel_rfl
  have HSF : Hid (∀ (U : World) (o : Nat), (U.cell? ⟨w3.heap.size, 1, none⟩ = some (.slice va 3 vc) ∧ U.cell? ⟨w8.heap.size, 0, none⟩ = some (.slice a8 1 c8) ∧ Below W.heap.size W U) → FrsIn (fun _ => True) U (.slice (some ⟨o, 0, none⟩) 1 1) shelfO → Calls Try.prog 28 #[.slice a8 1 c8, .slice (some ⟨o, 0, none⟩) 1 1] U fun e w' => e = .returned (.bool true) ∧ Below U.heap.size U w') := fun U o h1 h2 => by
    have := sameFrames_any _ _ _ _ U (FW.out.below h1.2.2).frs h2.frs (by show 1 ≤ _; omega)
    rw [show sameFs shelfO shelfO = true from decide_eq_true rfl] at this
    exact this
  go_region_held3 (fun w' => w'.cell? ⟨w3.heap.size, 1, none⟩ = some (.slice va 3 vc) ∧ w'.cell? ⟨w8.heap.size, 0, none⟩ = some (.slice a8 1 c8) ∧ Below W.heap.size W w') (first | exact ⟨k1, j0, Below.drew (Below.refl _ _)⟩ | exact heldB (by assumption) (by assumption) | (refine heldB ?_ ?_ <;> assumption))
    (first
      | (go_at_call 37; refine (HSH.out _).mono ?_; rintro e w12 ⟨g12, o12, rfl, G12, O12, b12⟩)
      | (go_at_call 40; refine (HCK.out _ _ _ G12.out O12.out).mono ?_; rintro e w13 ⟨rfl, b13⟩)
      | (go_at_call 28; refine (HSF.out _ _ (by assumption) O12.out).mono ?_; rintro e w14 ⟨rfl, b14⟩))
  have hS : w14.cell? ⟨w3.heap.size, 1, none⟩ = some (.slice va 3 vc) ∧ w14.cell? ⟨w8.heap.size, 0, none⟩ = some (.slice a8 1 c8) ∧ Below W.heap.size W w14 := by assumption
  have B14 : Hid (Below w.heap.size w w14) := BW.out.trans (hS.2.2.mono BW.out.size)
  clear hS
  go_wp2_with fail
  go_ret
  exact ⟨rfl, B14.out⟩

end Go.Proofs.Ytnpaejknoipicae

namespace Go.Proofs.Ytnpaejknoipicae
open Go.RowKit

/-- all below base is as it was, but block B -/
structure But (B base : Nat) (w w' : World) : Prop where
  os : w'.os = w.os
  tape : w'.tape = w.tape
  output : w'.output = w.output
  size : w.heap.size ≤ w'.heap.size
  block : ∀ k, k < base → k ≠ B → w'.heap[k]? = w.heap[k]?
theorem But.refl (B base : Nat) (w : World) : But B base w w := ⟨rfl, rfl, rfl, Nat.le_refl _, fun _ _ _ => rfl⟩
theorem But.trans {B base : Nat} {a b c : World} (h : But B base a b) (k : But B base b c) : But B base a c :=
  ⟨k.os.trans h.os, k.tape.trans h.tape, k.output.trans h.output, Nat.le_trans h.size k.size, fun j hj hn => (k.block j hj hn).trans (h.block j hj hn)⟩
theorem But.of_below {B base : Nat} {a b : World} (h : Below base a b) : But B base a b := ⟨h.os, h.tape, h.output, h.size, fun j hj _ => h.block j hj⟩
theorem But.set {B base : Nat} {a b : World} (h : But B base a b) (i : Nat) (v : Value) : But B base a (b.setCell ⟨B, i, none⟩ v) :=
  ⟨h.os, h.tape, h.output, by simpa using h.size, fun j hj hn => (Below.heap_setCell b ⟨B, i, none⟩ v j hn).trans (h.block j hj hn)⟩
theorem But.toBelow {B base c : Nat} {a b : World} (h : But B base a b) (h1 : c ≤ base) (h2 : c ≤ B) : Below c a b := ⟨h.os, h.tape, h.output, h.size, fun j hj => h.block j (by omega) (by omega)⟩
theorem Blk.but {B base : Nat} {w w' : World} {b : Nat} {C : Array Value} {t : TypeId} (h : Blk w b C t) (hk : But B base w w') (h1 : b < base) (h2 : b ≠ B) : Blk w' b C t := (hk.block b h1 h2).trans h

theorem But.alloc {B base : Nat} {a b : World} (h : But B base a b) (hb : base ≤ b.heap.size) (o : Obj) : But B base a (b.alloc o) := h.trans (But.of_below ((Below.refl base b).alloc hb o))
theorem But.below {B base : Nat} {a b c : World} (h : But B base a b) (hb : base ≤ b.heap.size) (k : Below b.heap.size b c) : But B base a c := h.trans (But.of_below (k.mono hb))

end Go.Proofs.Ytnpaejknoipicae

namespace Go.Proofs.Ytnpaejknoipicae
open Go.RowKit

/-- a row of frames behind a row of the call's own -/
theorem fr_app {base : Nat} {w : World} {u x : Value} {l m : List Fr} (h : OwnFrs base (NS base u) w u l) (hx : FrsIn (NS base u) w x m) (hl : l.length + m.length ≤ 1000) (hb : base ≤ w.heap.size) :
    ∃ v' w', (Builtin.append_ #[32, 32] 32 #[u, x]).run Try.prog w = .ok v' w' ∧ OwnFrs base (NS base v') w' v' (l ++ m) ∧ w.grownBy w' u.ownBlock := by
  obtain ⟨i0, hi, hz0, hz1, hz2⟩ := info_parts Try.infoFrm
  have h1 : OwnFrs base (fun g => NS base u g ∧ g < w.heap.size) w u l := h.to (SameOn.refl _ _) (fun g hg hs => ⟨hs, hg⟩) (fun _ _ => rfl)
  have hx1 : FrsIn (fun g => NS base u g ∧ g < w.heap.size) w x m := hx.mono fun g hg hs => ⟨hs, hg⟩
  obtain ⟨ps, p1, p2, p3⟩ := h1
  obtain ⟨qs, q1, q2, q3⟩ := hx1.sl
  have hps : ps.length = l.length := by rw [← p1, List.length_map]
  have hqs : qs.length = m.length := by rw [← q1, List.length_map]
  obtain ⟨v', w', r, o, g, dd⟩ := run_append_any (P := Try.prog) w base 32 32 39 i0 _ 3 40 Try.underlying32 hi hz0 hz1 hz2 rfl (by decide) u ps.length (frCells ps) p2 qs.length (frCells qs) x q2 (fr_one2 q3) (by unfold maxLen; omega) (by omega) hb
  have hs : SameOn (fun g => NS base u g ∧ g < w.heap.size) w w' := SameOn.grown g (fun g hg => hg.1.2)
  have o1 : OwnFrs base (fun g => NS base u g ∧ g < w.heap.size) w' v' (l ++ m) := by
    refine ⟨ps ++ qs, by rw [List.map_append, p1, q1], by rw [List.length_append, frCells_append]; exact o, fun p hp => ?_⟩
    rcases List.mem_append.1 hp with hp | hp
    · exact (p3 p hp).to hs (fun _ _ h => h)
    · exact (q3 p hp).to hs (fun _ _ h => h)
  refine ⟨v', w', r, o1.to (SameOn.refl _ _) (fun g _ hg => ⟨hg.1.1, fun e => ?_⟩) (fun _ _ => rfl), g⟩
  rcases dd with d | d
  · rw [d] at e; exact hg.1.2 e
  · have := d g e.symm; omega

/-- one more frame behind a row of the call's own -/
theorem fr_snocK {base : Nat} {w : World} {u pv : Value} {l : List Fr} {f : Fr} (h : OwnFrs base (NS base u) w u l) (hp : StrsIn (NS base u) w pv f.parts) (hl : l.length ≤ 999) (hb : base ≤ w.heap.size) :
    ∃ v' w', (Builtin.append_ #[32, 32] 32 #[u, .slice (some ⟨w.heap.size, 0, none⟩) 1 1]).run Try.prog (w.alloc (.cells #[.int .i64 f.time, .bool f.key, pv] 39)) = .ok v' w' ∧ OwnFrs base (NS base v') w' v' (l ++ [f]) ∧ (w.alloc (.cells #[.int .i64 f.time, .bool f.key, pv] 39)).grownBy w' u.ownBlock := by
  have h1 : OwnFrs base (NS base u) (w.alloc (.cells #[.int .i64 f.time, .bool f.key, pv] 39)) u l := h.below ((Below.refl _ w).alloc (Nat.le_refl _) _)
  have hW : base ≤ (w.alloc (.cells #[.int .i64 f.time, .bool f.key, pv] 39)).heap.size := by simp; omega
  refine fr_app h1 ⟨some ⟨w.heap.size, 0, none⟩, 1, rfl, Nat.le_refl _, by decide, fun k hk => ?_⟩ (by simp; omega) hW
  have hk0 : k = 0 := by simpa using hk
  subst hk0
  have hB := Blk.new w #[.int .i64 f.time, .bool f.key, pv] 39
  refine ⟨w.heap.size, 0, rfl, hB.lt, ⟨hb, fun e => ?_⟩, pv, hB.cell rfl, hB.cell rfl, hB.cell rfl, hp.alloc _⟩
  have := (h.lt _ e.symm).2
  omega
theorem OwnFrs.but {base : Nat} {S : Nat → Prop} {w w' : World} {v : Value} {l : List Fr} (h : OwnFrs base S w v l) (hb : Below w.heap.size w w') : OwnFrs base S w' v l := h.below hb
theorem OwnFrs.set {base : Nat} {w : World} {v : Value} {l : List Fr} (h : OwnFrs base (NS base v) w v l) {b i : Nat} (hb : b < base) (y : Value) : OwnFrs base (NS base v) (w.setCell ⟨b, i, none⟩ y) v l :=
  h.to (SameOn.setCell (S := NS base v) (a := ⟨b, i, none⟩) (fun g hg => by have := hg.1; show g ≠ b; omega) y) (fun _ _ h => h) (fun g hg => Below.heap_setCell _ _ _ _ (by have := (h.lt g hg).1; show g ≠ b; omega))
/-- what an append leaves of the rest -/
theorem grown_but {B base : Nat} {w w' : World} {row : Option Nat} (hg : w.grownBy w' row) (hb : base ≤ w.heap.size) (hr : ∀ k, row = some k → base ≤ k) : But B base w w' := .of_below ((Below.refl base w).grown hg hb hr)

end Go.Proofs.Ytnpaejknoipicae

namespace Go.Proofs.Ytnpaejknoipicae
open Go.RowKit

/-- where a replayed one goes from a place -/
theorem order_next {A : List (List Fr)} (hA : ∀ g ∈ A, gchk g = 0) {k j : Nat} (hk : k < A.length) (hj : j ≤ (grAt A k).length) :
    (∃ k' j' : Nat, nxt 3 A k j 1000000 = some (k', j', false) ∧ restF A k j = frAt (grAt A k') j' :: restF A k' (j' + 1) ∧ k' < A.length ∧ j' < (grAt A k').length) ∨ (nxt 3 A k j 1000000 = none ∧ restF A k j = []) := by
  by_cases h : j < (grAt A k).length
  · left
    exact ⟨k, j, nxt_in (.inr rfl) (fun _ => (gchk_time (hA _ (grAt_mem hk)) h).2) hk h, restF_in h, hk, h⟩
  · have hje : j = (grAt A k).length := by omega
    subst hje
    by_cases h2 : k + 1 < A.length
    · left
      have h0 := (gchk_first (hA _ (grAt_mem h2))).1
      exact ⟨k + 1, 0, nxt_behind (.inr rfl) (fun _ => (gchk_time (hA _ (grAt_mem h2)) h0).2) h2, restF_behind h2 h0, h2, h0⟩
    · right
      exact ⟨nxt_end (by omega), restF_end (by omega)⟩

set_option maxHeartbeats 16000000 in
set_option maxRecDepth 100000 in
theorem cursorOrder_any (first : Int) (gv ov : Value) (L : List (List Fr)) (O : List Fr) (t : Int) (w : World) (hg : GrsIn (fun _ => True) w gv L) (ho : FrsIn (fun _ => True) w ov O) :
    Calls Try.prog 7 #[.agg #[.int .i64 first, gv, ov], .int .i64 t] w fun e w' => e = .returned (.bool true) ∧ Below w.heap.size w w' := by
  obtain ⟨ga, gc, eg, _, _⟩ := hg.len
  obtain ⟨oa, oc, eo, _, _⟩ := ho.len
  obtain ⟨ln, hln⟩ : ∃ n, n = L.length := ⟨_, rfl⟩
  obtain ⟨lo, hlo⟩ : ∃ n, n = O.length := ⟨_, rfl⟩
  rw [← hln] at eg
  rw [← hlo] at eo
  obtain ⟨E, hE⟩ : ∃ E, E = seekE first L O t := ⟨_, rfl⟩
  obtain ⟨N, hN⟩ : ∃ E, E = seekN first L O t := ⟨_, rfl⟩
  obtain ⟨M, hM⟩ : ∃ E, E = begM first L O 3 t := ⟨_, rfl⟩
  obtain ⟨A, hA⟩ : ∃ A, A = allG L O := ⟨_, rfl⟩
  obtain ⟨q, hq⟩ : ∃ n, n = A.length := ⟨_, rfl⟩
  have HSEEK : Hid (∀ U, Below w.heap.size w U → Calls Try.prog 20 #[.agg #[.int .i64 first, gv, ov], .int .i64 t] U fun e w' => e = .returned (.tuple #[.agg #[.int .i64 M, .int .i64 N, .int .i64 0], .int .i64 E]) ∧ Below U.heap.size U w') := fun U hU => by
    rw [hM, hN, hE]; exact curSeek_any first gv ov L O t U (hg.below hU) (ho.below hU)
  have HBAD : Hid (¬ E = 0 → M = 0 ∧ N = 0) := fun h => by
    rw [hE] at h
    rw [hM, hN]; unfold begM seekN; rw [if_neg h, if_neg h]; exact ⟨rfl, rfl⟩
  have HGOOD : Hid (E = 0 → M = 3 ∧ ∃ k0 : Nat, N = first + k0 ∧ k0 < q ∧ q ≤ 6 ∧ ln ≤ 5 ∧ q ≤ ln + 1 ∧ ln ≤ q ∧ 0 ≤ first ∧ first ≤ 100000 ∧ (∀ g ∈ A, gchk g = 0) ∧ stchk first L O = 0) := fun h => by
    rw [hE] at h
    obtain ⟨h1, _, _, h4, h5⟩ := seekE_zero h
    obtain ⟨q1, q2, q3, _⟩ := stchk_zero.1 h1
    have h6 := allG_len L O q3
    have h7 := allG_length L O
    have hi : seekI A t (q - 1) ≤ q - 1 := seekI_le _ _ _
    rw [← hA] at h4 h5 h6 h7
    rw [← hq] at h4 h5 h6 h7
    refine ⟨by rw [hM]; unfold begM; rw [if_pos h], seekI A t (q - 1), by rw [hN, h5], by omega, by omega, by omega, ?_, ?_, q1, q2, by rw [hA]; exact allG_right h1, h1⟩
    · rw [h7, hln]; split <;> omega
    · rw [h7, hln]; split <;> omega
  have HGET : Hid (∀ (U : World) (p : Int), p ≤ 1000000 → Below w.heap.size w U → Calls Try.prog 27 #[.agg #[.int .i64 first, gv, ov], .int .i64 p] U fun e w' => ∃ a c, e = .returned (.tuple #[.agg #[.slice a (getG first L O p).length c], .int .i64 (getE first L O p)]) ∧ FrsIn (fun g => U.heap.size ≤ g) w' (.slice a (getG first L O p).length c) (getG first L O p) ∧ Below U.heap.size U w') := fun U p hp hU => storeGet_new first gv ov L O p U (hg.below hU) (ho.below hU) (by omega)
  have HGE : Hid (E = 0 → ∀ p : Nat, (p < q → getE first L O (first + p) = 0 ∧ getG first L O (first + p) = grAt A p) ∧ (q ≤ p → getE first L O (first + p) = 5)) := fun h p => by
    obtain ⟨_, _, _, _, _, _, _, _, _, _, _, h1⟩ := HGOOD.out h
    refine ⟨fun hp => ?_, fun hp => ?_⟩
    · have := getE_in h1 (n := first + p) (d := p) rfl (by rw [← hA, ← hq]; exact hp)
      rw [← hA] at this; exact this
    · exact (getE_out h1 (n := first + p) (.inr (by rw [← hA, ← hq]; omega))).1
  have HNX : Hid (E = 0 → ∀ (U : World) (k j k' j' : Nat), k < q → j ≤ (grAt A k).length → nxt 3 A k j 1000000 = some (k', j', false) → Below w.heap.size w U → Calls Try.prog 17 #[.agg #[.int .i64 first, gv, ov], .agg #[.int .i64 3, .int .i64 (first + k), .int .i64 j], .int .i64 1000000] U fun e w' => ∃ xa xc, e = .returned (.tuple #[.agg #[.int .i64 3, .int .i64 (first + k'), .int .i64 (j' + 1)], .agg #[.int .i64 (frAt (grAt A k') j').time, .bool (frAt (grAt A k') j').key, .slice xa (frAt (grAt A k') j').parts.length xc], .bool true, .bool false, .int .i64 0]) ∧ Hid (StrsIn (fun b => U.heap.size ≤ b) w' (.slice xa (frAt (grAt A k') j').parts.length xc) (frAt (grAt A k') j').parts) ∧ Below U.heap.size U w') := fun h0 U k j k' j' hk hj hn hU => by
    obtain ⟨_, k0, h1, h2, h3, h4, h5, _, h6, h7, h8, h9⟩ := HGOOD.out h0
    have hg6 := (gchk_first (h8 _ (grAt_mem (k := k) (by omega)))).2.1
    have hz : nxE first L O 3 (first + k) j 1000000 = 0 := nxE_zero.2 ⟨h9, curE_zero.2 ⟨by omega, by omega, by omega, by omega, by omega, by omega⟩, by omega, by omega⟩
    rw [hA, show (k : Int) = (first + k) - first by omega] at hn
    obtain ⟨r1, r2, r3, r4, r5, r6, _⟩ := nx_some hz hn
    refine (next_any first gv ov L O 3 (first + k) j 1000000 U (hg.below hU) (ho.below hU)).mono ?_
    rintro e w' ⟨pv, rfl, hs, hb⟩
    rw [r4, ← hA] at hs
    obtain ⟨xa, xc, ex⟩ := hs.1.len
    refine ⟨xa, xc, ?_, by rw [← ex]; exact hs, hb⟩
    rw [r1, r2, r3, r4, r5, r6, hz, ← hA, ex]
  have HNE : Hid (E = 0 → ∀ (U : World) (k j : Nat), k < q → j ≤ (grAt A k).length → nxt 3 A k j 1000000 = none → Below w.heap.size w U → Calls Try.prog 17 #[.agg #[.int .i64 first, gv, ov], .agg #[.int .i64 3, .int .i64 (first + k), .int .i64 j], .int .i64 1000000] U fun e w' => ∃ xa xc, e = .returned (.tuple #[.agg #[.int .i64 3, .int .i64 (first + k), .int .i64 j], .agg #[.int .i64 0, .bool false, .slice xa 0 xc], .bool false, .bool false, .int .i64 0]) ∧ Below U.heap.size U w') := fun h0 U k j hk hj hn hU => by
    obtain ⟨_, k0, h1, h2, h3, h4, h5, _, h6, h7, h8, h9⟩ := HGOOD.out h0
    have hg6 := (gchk_first (h8 _ (grAt_mem (k := k) (by omega)))).2.1
    have hz : nxE first L O 3 (first + k) j 1000000 = 0 := nxE_zero.2 ⟨h9, curE_zero.2 ⟨by omega, by omega, by omega, by omega, by omega, by omega⟩, by omega, by omega⟩
    rw [hA, show (k : Int) = (first + k) - first by omega] at hn
    obtain ⟨r1, r2, r3, r4, r5, r6⟩ := nx_none hz hn
    refine (next_any first gv ov L O 3 (first + k) j 1000000 U (hg.below hU) (ho.below hU)).mono ?_
    rintro e w' ⟨pv, rfl, hs, hb⟩
    rw [r4] at hs
    obtain ⟨xa, xc, ex⟩ := hs.1.len
    refine ⟨xa, xc, ?_, hb⟩
    rw [r1, r2, r3, r4, r5, r6, hz, ex]
    rfl
  have HS : Hid (Stay w (fun U => Below w.heap.size w U)) := below_stay0 w
  have HQ : Hid (q = A.length) := hq
  clear hg ho hE hln hlo hN hM hA hq
  subst eg eo
  go_enter Try.func7, Try.ntmps7
  go_wp2_with fail
  obtain ⟨W0, hW0⟩ : ∃ W0, W0 = w.alloc (.cells #[.int .i64 first, .slice ga ln gc, .slice oa lo oc] 36) := ⟨_, rfl⟩
  have HS0 : Hid (Stay W0 (fun U => Blk U w.heap.size #[.int .i64 first, .slice ga ln gc, .slice oa lo oc] 36 ∧ Below w.heap.size w U)) := by
    rw [hW0]
    exact (Blk.new _ _ _).stay.and (HS.out.alloc _)
  rw [← hW0]
  clear hW0 HS
  refine (cursorBegun_any _).mono ?_
  rintro e w1 ⟨rfl, b1⟩
  have HS1 := Stay.go HS0 b1
  clear b1 HS0
  go_wp2_with fail
  refine (storeBegun_any _).mono ?_
  rintro e w2 ⟨rfl, b2⟩
  have HS2 := Stay.go HS1 b2
  clear b2 HS1
  obtain ⟨k0, k1, k2⟩ := HS2.out.now.1.three
  go_wp2_with fail
  refine (HSEEK.out _ HS2.out.now.2).mono ?_
  rintro e w3 ⟨rfl, b3⟩
  have HS3 := Stay.go HS2 b3
  obtain ⟨W1, hW1⟩ : ∃ W1, W1 = w3.alloc (.cells #[.int .i64 M, .int .i64 N, .int .i64 0] 41) := ⟨_, rfl⟩
  have HT1 : Hid (StayK [w3.heap.size] W1 _) := HS3.out.toK hW1
  have HC1 : Hid (Blk W1 w3.heap.size #[.int .i64 M, .int .i64 N, .int .i64 0] 41) := Blk.newE hW1
  have HCB : Hid (w.heap.size < w3.heap.size) := HS3.out.now.1.lt
  clear b3 HS2 HS3 HSEEK k0 k1 k2
  obtain ⟨k0, k1, k2⟩ := HT1.out.now.1.three
  obtain ⟨c0, c1, c2⟩ := HC1.out.three
  go_upto_region 4 with fail
  rw [← hW1]
  clear hW1
  by_cases hE : E = 0
  case neg =>
    obtain ⟨rfl, rfl⟩ := HBAD.out hE
    have hq := fun W => eql_cur 0 0 0 0 0 0 W
    have BW : Hid (Below w.heap.size w W1) := HT1.out.now.2
    clear HT1
    go_wp2
    go_ret
    exact ⟨rfl, BW.out⟩
  obtain ⟨rfl, g0, hNg, hgq, hq6, hl5, hql, hlq, hf0, hf1, hgr, _⟩ := HGOOD.out hE
  have HGE' : Hid _ := HGE.out hE
  have HNX' : Hid _ := HNX.out hE
  have HNE' : Hid _ := HNE.out hE
  have HGR : Hid (∀ g ∈ A, gchk g = 0) := hgr
  have HFL : Hid (∀ B : List (List Fr), (∀ g ∈ B, g ∈ A) → B.length ≤ 6 → B.flatten.length ≤ 36) := fun B hB h6 => by
    have := flatten_len (A := B) (fun g hg => (gchk_first (hgr g (hB g hg))).2.1)
    omega
  clear hgr HGOOD HBAD HGE HNX HNE
  subst hE hNg
  have HB0 : Hid (Below W1.heap.size W1 W1) := Below.refl _ _
  have HW1 : Hid (W1.heap.size ≤ W1.heap.size ∧ w3.heap.size < W1.heap.size) := ⟨Nat.le_refl _, HC1.out.lt⟩
  go_wp2_with fail
  go_loopw [8, 9] (fun v i wr => ∃ p : Nat, g0 ≤ p ∧ p ≤ ln + 1 ∧ i = .int .i64 (first + p) ∧ Hid (OwnFrs W1.heap.size (NS W1.heap.size v) wr v ((A.drop g0).take (p - g0)).flatten) ∧ Hid (Below W1.heap.size W1 wr))
    (fun _ i _ => (first + ln + 1 - intOf i).toNat)
  case atStart => exact ⟨g0, Nat.le_refl _, by omega, rfl, (by rw [Nat.sub_self]; exact OwnFrs.nil _ _ _), HB0.out⟩
  case round =>
    obtain ⟨p, hp0, hp1, rfl, HO, HB⟩ := hrel
    have HT2 : Hid (StayK [w3.heap.size] wr _) := StayK.go HT1 HB.out
    clear k0 k1 k2 c0 c1 c2 HB0
    obtain ⟨k0, k1, k2⟩ := HT2.out.now.1.three
    by_cases hlt : p ≤ ln
    · have hlti : first + (p : Int) ≤ first + (ln : Int) := by omega
      have hp6 : first + (p : Int) ≤ 1000000 := by omega
      have HCG := HGET.out wr (first + p) hp6 HT2.out.now.2
      obtain ⟨X, hX⟩ : ∃ X, X = getG first L O (first + p) := ⟨_, rfl⟩
      obtain ⟨Y, hY⟩ : ∃ Y, Y = getE first L O (first + p) := ⟨_, rfl⟩
      obtain ⟨nX, hnX⟩ : ∃ n, n = X.length := ⟨_, rfl⟩
      rw [← hX, ← hY, ← hnX] at HCG
      have HXY : Hid ((p < q → Y = 0 ∧ X = grAt A p) ∧ (q ≤ p → Y = 5)) := by rw [hX, hY]; exact HGE'.out p
      clear hX hY hnX
      go_wp2_with fail
      refine HCG.mono ?_
      rintro e w7 ⟨xa, xc, rfl, F7, b7⟩
      obtain ⟨W8, hW8⟩ : ∃ W8, W8 = w7.alloc (.cells #[.slice xa nX xc] 34) := ⟨_, rfl⟩
      have b78 : Below w7.heap.size w7 W8 := by rw [hW8]; go_grown
      have b8 : Below wr.heap.size wr W8 := b7.trans (b78.mono b7.size)
      have HO8 := HO.out.below b8
      have HB8 : Hid (Below W1.heap.size W1 W8) := HB.out.trans (b8.mono HB.out.size)
      have HX8 := F7.below b78
      have x0 := (Blk.newE hW8).one
      have hs8 := b8.size
      have hs1 := HB.out.size
      by_cases hpq : p < q
      · obtain ⟨hY0, hXA⟩ := HXY.out.1 hpq
        subst hY0
        have hlen : ((A.drop g0).take (p - g0)).flatten.length ≤ 36 := HFL.out _ (fun g hg => List.mem_of_mem_drop (List.mem_of_mem_take hg)) (by rw [List.length_take, List.length_drop, ← HQ.out]; omega)
        have hx6 : X.length ≤ 6 := by rw [hXA]; exact (gchk_first (HGR.out _ (grAt_mem (by rw [← HQ.out]; exact hpq)))).2.1
        obtain ⟨v', w9, r9, o9, gr9⟩ := fr_app HO8 (HX8.mono (S' := NS W1.heap.size u8) (fun g _ hg => ⟨by omega, fun e => by have := (HO.out.lt g e.symm).2; omega⟩)) (by omega) (by omega)
        have B9 : Hid (Below W1.heap.size W1 w9) := HB8.out.grown gr9 (by omega) (fun k hk => (HO8.lt k hk).1)
        have HO9 : Hid (OwnFrs W1.heap.size (NS W1.heap.size v') w9 v' ((A.drop g0).take (p + 1 - g0)).flatten) := by
          rw [wantF_step hp0 (by rw [← HQ.out]; exact hpq), ← hXA]; exact o9
        clear o9 gr9 HX8 F7 b7 b78 b8 hXA HXY HCG HO HB HB8 HO8 hlen hx6
        have x0' : W8.cell? ⟨w7.heap.size, 0, none⟩ = some (.slice xa nX xc) := x0
        go_upto_region 12 with fail
        rw [← hW8]
        clear hW8 x0
        go_wp2_with (at_builtin; refine wpList_append_run rfl (.tmp 55) (.tmp 57) 32 32 rfl _ _ rfl rfl r9 ?_)
        go_roundw
        case rel => exact ⟨p + 1, by omega, by omega, by go_num, HO9.out, B9.out⟩
        case measure => simp [intOf]; omega
      · have hY5 := HXY.out.2 (by omega)
        subst hY5
        have HO9 : Hid (OwnFrs W1.heap.size (NS W1.heap.size u8) W8 u8 ((A.drop g0).take (p + 1 - g0)).flatten) := by
          rw [wantF_end (by rw [← HQ.out]; omega), ← wantF_end (k := g0) (q := p) (by rw [← HQ.out]; omega)]; exact HO8
        clear HX8 F7 b7 b78 b8 HXY HCG HO HB HO8
        go_wp2_with fail
        rw [← hW8]
        go_roundw
        case rel => exact ⟨p + 1, by omega, by omega, by go_num, HO9.out, HB8.out⟩
        case measure => simp [intOf]; omega
    · have hge : ¬ first + (p : Int) ≤ first + (ln : Int) := by omega
      obtain ⟨R, hR⟩ : ∃ R, R = restF A g0 0 := ⟨_, rfl⟩
      have hRf : R = (A.drop g0).flatten := by rw [hR, restF_all (by rw [← HQ.out]; exact hgq)]
      have HO2 := HO.out
      rw [wantF_end (by rw [← HQ.out]; omega), ← hRf] at HO2
      have HR36 : Hid (R.length ≤ 36) := by
        rw [hRf]; exact HFL.out _ (fun g hg => List.mem_of_mem_drop hg) (by rw [List.length_drop, ← HQ.out]; omega)
      have HR : Hid (R = restF A g0 0) := hR
      have HW2 := HO2.frsIn (S' := fun g => W1.heap.size ≤ g ∧ g < wr.heap.size) (fun g hg hs => ⟨hs.1, hg⟩) (fun g hg => HO2.lt g hg)
      have HWANT : Hid (FrsIn (fun g => W1.heap.size ≤ g ∧ g < wr.heap.size) wr u8 R) := HW2
      have HC2 : Hid (Blk wr w3.heap.size #[.int .i64 3, .int .i64 (first + g0), .int .i64 (0 : Nat)] 41) := HC1.out.below HB.out HC1.out.lt
      have HSZ : Hid (W1.heap.size ≤ wr.heap.size ∧ w3.heap.size < W1.heap.size) := ⟨HB.out.size, HW1.out.2⟩
      clear HO HO2 HW2 hR hRf HC1 HT1 HB HW1 HGET HGE'
      obtain ⟨wA, hwA⟩ : ∃ x, x = wr := ⟨_, rfl⟩
      subst hwA
      have HT3 : Hid (Blk wA w.heap.size #[.int .i64 first, .slice ga ln gc, .slice oa lo oc] 36 ∧ Below w.heap.size w wA) := HT2.out.now
      clear HT2
      go_wp2_with fail
      have HCOM : Hid (W1.heap.size ≤ wA.heap.size ∧ w3.heap.size < wA.heap.size ∧ w.heap.size < w3.heap.size) := ⟨HSZ.out.1, by have := HSZ.out.1; have := HSZ.out.2; omega, HCB.out⟩
      go_loopw [7, 12] (fun v i wr => ∃ (n k j : Nat) (l : List Fr), i = .int .i64 n ∧ k < q ∧ Hid (j ≤ (grAt A k).length) ∧ Hid (Blk wr w3.heap.size #[.int .i64 3, .int .i64 (first + k), .int .i64 j] 41) ∧ Hid (OwnFrs wA.heap.size (NS wA.heap.size v) wr v l) ∧ Hid (l ++ restF A k j = R ∧ l.length = n) ∧ Hid (But w3.heap.size wA.heap.size wA wr))
        (fun _ i _ => 50 - (intOf i).toNat)
      case atStart => exact ⟨0, g0, 0, [], rfl, hgq, Nat.zero_le _, HC2.out, OwnFrs.nil _ _ _, ⟨by rw [List.nil_append]; exact HR.out.symm, rfl⟩, But.refl _ _ _⟩
      case round =>
        obtain ⟨n, k, j, l, rfl, hk, HJ, HC, HO, HL, HB⟩ := hrel
        clear HC2
        have hn36 : n ≤ 36 := by
          have h1 := HL.out.1
          have h2 := HL.out.2
          have h3 := HR36.out
          rw [← h1, List.length_append] at h3
          omega
        have hn50 : (n : Int) < 50 := by omega
        have HWr : Hid (Blk wr w.heap.size #[.int .i64 first, .slice ga ln gc, .slice oa lo oc] 36 ∧ Below w.heap.size w wr) := by
          have h3 := HCOM.out
          have hlt := HT3.out.1.lt
          refine ⟨HT3.out.1.but HB.out (by omega) (by omega), HT3.out.2.trans (HB.out.toBelow (by omega) (by omega))⟩
        have hOl := HO.out.lt
        have HOL : Hid (∀ g, u7.ownBlock = some g → wA.heap.size ≤ g ∧ g < wr.heap.size) := hOl
        clear hOl
        obtain ⟨k0, k1, k2⟩ := HWr.out.1.three
        obtain ⟨c0, c1, c2⟩ := HC.out.three
        rcases order_next HGR.out (k := k) (j := j) (by rw [← HQ.out]; exact hk) HJ.out with ⟨k', j', hn, hrest, hk', hj'⟩ | ⟨hn, hrest⟩
        · have HCN := HNX'.out wr k j k' j' hk HJ.out hn HWr.out.2
          obtain ⟨x, hx⟩ : ∃ x, x = frAt (grAt A k') j' := ⟨_, rfl⟩
          rw [← hx] at HCN hrest
          obtain ⟨xt, hxt⟩ : ∃ t, t = x.time := ⟨_, rfl⟩
          obtain ⟨xk, hxk⟩ : ∃ t, t = x.key := ⟨_, rfl⟩
          obtain ⟨xn, hxn⟩ : ∃ t, t = x.parts.length := ⟨_, rfl⟩
          rw [← hxt, ← hxk, ← hxn] at HCN
          have HL2 : Hid ((l ++ [x]) ++ restF A k' (j' + 1) = R ∧ (l ++ [x]).length = n + 1) := by
            refine ⟨?_, by rw [List.length_append, HL.out.2]; rfl⟩
            rw [List.append_assoc, List.singleton_append, ← hrest]; exact HL.out.1
          have HK' : Hid (k' < q ∧ j' + 1 ≤ (grAt A k').length) := ⟨by rw [HQ.out]; exact hk', hj'⟩
          have HXX : Hid (xt = x.time ∧ xk = x.key ∧ xn = x.parts.length) := ⟨hxt, hxk, hxn⟩
          clear hx hxt hxk hxn hn hrest hk' hj'
          go_wp2_with fail
          refine HCN.mono ?_
          rintro e w7 ⟨xa, xc, rfl, X7, b7⟩
          clear HCN
          obtain ⟨W8, hW8⟩ : ∃ W8, W8 = (w7.alloc (.cells #[.int .i64 3, .int .i64 (first + k'), .int .i64 (j' + 1)] 41)).alloc (.cells #[.int .i64 xt, .bool xk, .slice xa xn xc] 39) := ⟨_, rfl⟩
          have b78 : Below w7.heap.size w7 W8 := by rw [hW8]; go_grown
          have b8 : Below wr.heap.size wr W8 := b7.trans (b78.mono b7.size)
          have hD8 : Blk W8 w7.heap.size #[.int .i64 3, .int .i64 (first + k'), .int .i64 (j' + 1)] 41 := by rw [hW8]; exact (Blk.new _ _ _).alloc _
          have hX8 : Blk W8 (w7.heap.size + 1) #[.int .i64 xt, .bool xk, .slice xa xn xc] 39 := by
            rw [hW8]
            have := Blk.new (w7.alloc (.cells #[.int .i64 3, .int .i64 (first + k'), .int .i64 (j' + 1)] 41)) #[.int .i64 xt, .bool xk, .slice xa xn xc] 39
            rw [World.size_alloc] at this; exact this
          have hP8 : StrsIn (fun b => wr.heap.size ≤ b) W8 (.slice xa xn xc) x.parts := X7.out.below b78
          have hC8 : Blk W8 w3.heap.size #[.int .i64 3, .int .i64 (first + k), .int .i64 j] 41 := HC.out.below b8 HC.out.lt
          have hs1 := HB.out.size
          have hs2 := b8.size
          have hs3 := b7.size
          have hc := HCOM.out
          obtain ⟨v', w9, r9, o9, gr9⟩ := fr_snocK (f := x) (HO.out.below b8) (hP8.mono (S' := NS wA.heap.size u7) (fun g _ hg => ⟨by omega, fun e => by have := (HOL.out g e.symm).2; omega⟩)) (by rw [HL.out.2]; omega) (by omega)
          obtain ⟨q1, q2, q3⟩ := HXX.out
          rw [← q1, ← q2] at r9 gr9
          have hD9 : Blk w9 w7.heap.size #[.int .i64 3, .int .i64 (first + k'), .int .i64 (j' + 1)] 41 := (gr9.block _ (hD8.alloc _).lt (fun e => by have := (HOL.out _ e.symm).2; omega)).trans (hD8.alloc _)
          have hC9 : Blk w9 w3.heap.size #[.int .i64 3, .int .i64 (first + k), .int .i64 j] 41 := (gr9.block _ (hC8.alloc _).lt (fun e => by have := (HOL.out _ e.symm).1; omega)).trans (hC8.alloc _)
          have hB9 : But w3.heap.size wA.heap.size wA w9 := (((HB.out.below (by omega) b8)).alloc (by omega) _).trans (grown_but gr9 (by simp; omega) (fun k hk => (HOL.out k hk).1))
          obtain ⟨x0, x1, x2⟩ := hX8.three
          obtain ⟨d0, d1, d2⟩ := hD9.three
          obtain ⟨e0, e1, e2⟩ := hC9.three
          have f0 := hC9.free 0
          have f1 := hC9.free 1
          have f2 := hC9.free 2
          have HC10 : Hid _ := hC9.put3 (.int .i64 3) (.int .i64 (first + k')) (.int .i64 (j' + 1))
          have HO10 : Hid _ := ((o9.set (b := w3.heap.size) (i := 0) (by omega) (.int .i64 3)).set (b := w3.heap.size) (i := 1) (by omega) (.int .i64 (first + k'))).set (b := w3.heap.size) (i := 2) (by omega) (.int .i64 (j' + 1))
          have HB10 : Hid _ := ((hB9.set 0 (.int .i64 3)).set 1 (.int .i64 (first + k'))).set 2 (.int .i64 (j' + 1))
          clear hD8 hX8 hP8 hC8 hD9 hC9 hB9 o9 gr9 X7 b7 b78 b8 HO HB HWr HC HL HOL c0 c1 c2 k0 k1 k2 hs1 hs2 hs3 hc q1 q2 q3 HNE' HNX'
          go_upto_region 22 with fail
          rw [← hW8]
          clear hW8
          go_wp2_with (at_builtin; refine wpList_append_run rfl (.tmp 82) (.tmp 84) 32 32 rfl _ _ rfl rfl r9 ?_)
          go_roundw
          case rel => exact ⟨n + 1, k', j' + 1, l ++ [x], by go_num, HK'.out.1, HK'.out.2, HC10.out, HO10.out, HL2.out, HB10.out⟩
          case measure => simp [intOf]; omega
        · have HCN := HNE'.out wr k j hk HJ.out hn HWr.out.2
          have hlR : l = R := by
            have := HL.out.1
            rw [hrest, List.append_nil] at this; exact this
          have HLR : Hid (l = R) := hlR
          have hq := fun W => neql_cur 3 (first + k) j 3 (first + k) j W
          clear hrest hn hlR
          go_wp2_with fail
          refine HCN.mono ?_
          rintro e w7 ⟨xa, xc, rfl, b7⟩
          clear HCN
          obtain ⟨W8, hW8⟩ : ∃ W8, W8 = (w7.alloc (.cells #[.int .i64 3, .int .i64 (first + k), .int .i64 j] 41)).alloc (.cells #[.int .i64 0, .bool false, .slice xa 0 xc] 39) := ⟨_, rfl⟩
          have b78 : Below w7.heap.size w7 W8 := by rw [hW8]; go_grown
          have b8 : Below wr.heap.size wr W8 := b7.trans (b78.mono b7.size)
          have hD8 : Blk W8 w7.heap.size #[.int .i64 3, .int .i64 (first + k), .int .i64 j] 41 := by rw [hW8]; exact (Blk.new _ _ _).alloc _
          have hC8 : Blk W8 w3.heap.size #[.int .i64 3, .int .i64 (first + k), .int .i64 j] 41 := HC.out.below b8 HC.out.lt
          have hO8 := HO.out.below b8
          have hb1 := HB.out.size
          have hB8 : But w3.heap.size wA.heap.size wA W8 := HB.out.below (by omega) b8
          have hs8 := hB8.size
          have hc := HCOM.out
          have hz := HSZ.out
          have hWANT : FrsIn (fun g => W1.heap.size ≤ g ∧ g < wA.heap.size) W8 u8 R := HWANT.out.to ⟨by omega, fun g hg hS => hB8.block g hS.2 (by omega)⟩ (fun _ _ h => h)
          have hall : FrsIn (fun _ => True) W8 u7 R := by rw [← HLR.out]; exact hO8.frsIn (fun _ _ _ => trivial) (fun _ _ => trivial)
          have HSF : Hid (Calls Try.prog 28 #[u7, u8] W8 fun e w' => e = .returned (.bool true) ∧ Below W8.heap.size W8 w') := by
            have := sameFrames_any _ _ _ _ W8 hall.frs hWANT.frs (by have := HR36.out; omega)
            rw [show sameFs R R = true from decide_eq_true rfl] at this
            exact this
          have BW8 : Hid (Below w.heap.size w W8) := HWr.out.2.trans (b8.mono HWr.out.2.size)
          obtain ⟨d0, d1, d2⟩ := hD8.three
          obtain ⟨e0, e1, e2⟩ := hC8.three
          clear hD8 hC8 hO8 hB8 hWANT hall b7 b78 b8 HO HB HC HWr hs8 hc hz hb1 HOL c0 c1 c2 k0 k1 k2
          go_upto_region 20 with fail
          rw [← hW8]
          clear hW8
          go_wp2_with fail
          refine HSF.out.mono ?_
          rintro e w9 ⟨rfl, b9⟩
          have BW9 : Hid (Below w.heap.size w w9) := BW8.out.trans (b9.mono BW8.out.size)
          clear b9 BW8
          go_wp2
          go_ret
          exact ⟨rfl, BW9.out⟩

end Go.Proofs.Ytnpaejknoipicae
