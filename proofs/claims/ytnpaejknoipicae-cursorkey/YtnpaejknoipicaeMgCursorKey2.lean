/-
  The walk of switchbacklaw.CursorKey.
-/
import Derived.Test.YtnpaejknoipicaeMgCursorKey1
import Derived.Deep.RegionHeld3
import Derived.Test.YtnpaejknoipicaeGroupPlain
import Derived.Test.YtnpaejknoipicaeRefFrame
import Derived.BigQuiet
import Derived.Test.YtnpaejknoipicaeRefBetween
import Derived.Test.YtnpaejknoipicaeNestApp
import Derived.Test.YtnpaejknoipicaeAppAny
import Derived.Test.YtnpaejknoipicaeQuietSkip
import Derived.Lib.QuietBelow
import Derived.Deep.DeepCutAuto

namespace Go.Proofs.Ytnpaejknoipicae
open Go.RowKit

set_option maxHeartbeats 8000000 in
set_option maxRecDepth 100000 in
theorem cursorBegun_any (w : World) :
    Calls Try.prog 14 #[] w fun e w' => e = .returned (.bool true) ∧ Below w.heap.size w w' := by
  have HN1 : Hid (∀ (U : World) (gb ob : Nat), GrsIn (fun _ => True) U (.slice (some ⟨gb, 0, none⟩) 2 2) shelfL → FrsIn (fun _ => True) U (.slice (some ⟨ob, 0, none⟩) 1 1) shelfO → Calls Try.prog 17 #[.agg #[.int .i64 3, .slice (some ⟨gb, 0, none⟩) 2 2, .slice (some ⟨ob, 0, none⟩) 1 1], .agg #[.int .i64 3, .int .i64 3, .int .i64 0], .int .i64 100] U fun e w' => ∃ pa pn pc, e = .returned (.tuple #[.agg #[.int .i64 3, .int .i64 3, .int .i64 1], .agg #[.int .i64 10, .bool true, .slice pa pn pc], .bool true, .bool false, .int .i64 0]) ∧ Below U.heap.size U w') := fun U gb ob h1 h2 => by
    refine (next_any 3 _ _ shelfL shelfO 3 3 0 100 U h1 h2).mono ?_
    obtain ⟨a1, a2, a3, a4, a5, a6, a7, a8⟩ := shelf_next1
    rw [a1, a2, a3, a4, a5, a6, a7, a8]
    rintro e w' ⟨pv, rfl, hp, hb⟩
    obtain ⟨pa, pc, ep⟩ := hp.1.len
    rw [ep]
    exact ⟨_, _, _, rfl, hb⟩
  have HN2 : Hid (∀ (U : World) (gb ob : Nat), GrsIn (fun _ => True) U (.slice (some ⟨gb, 0, none⟩) 2 2) shelfL → FrsIn (fun _ => True) U (.slice (some ⟨ob, 0, none⟩) 1 1) shelfO → Calls Try.prog 17 #[.agg #[.int .i64 3, .slice (some ⟨gb, 0, none⟩) 2 2, .slice (some ⟨ob, 0, none⟩) 1 1], .agg #[.int .i64 2, .int .i64 3, .int .i64 1], .int .i64 100] U fun e w' => ∃ pa pn pc, e = .returned (.tuple #[.agg #[.int .i64 2, .int .i64 3, .int .i64 1], .agg #[.int .i64 0, .bool false, .slice pa pn pc], .bool false, .bool false, .int .i64 0]) ∧ Below U.heap.size U w') := fun U gb ob h1 h2 => by
    refine (next_any 3 _ _ shelfL shelfO 2 3 1 100 U h1 h2).mono ?_
    obtain ⟨a1, a2, a3, a4, a5, a6, a7, a8⟩ := shelf_next2
    rw [a1, a2, a3, a4, a5, a6, a7, a8]
    rintro e w' ⟨pv, rfl, hp, hb⟩
    obtain ⟨pa, pc, ep⟩ := hp.1.len
    rw [ep]
    exact ⟨_, _, _, rfl, hb⟩
  have HSK : Hid (∀ (U : World) (gb ob : Nat), GrsIn (fun _ => True) U (.slice (some ⟨gb, 0, none⟩) 2 2) shelfL → FrsIn (fun _ => True) U (.slice (some ⟨ob, 0, none⟩) 1 1) shelfO → Calls Try.prog 20 #[.agg #[.int .i64 3, .slice (some ⟨gb, 0, none⟩) 2 2, .slice (some ⟨ob, 0, none⟩) 1 1], .int .i64 12] U fun e w' => e = .returned (.tuple #[.agg #[.int .i64 3, .int .i64 3, .int .i64 0], .int .i64 0]) ∧ Below U.heap.size U w') := fun U gb ob h1 h2 => by
    have := curSeek_any 3 _ _ shelfL shelfO 12 U h1 h2
    obtain ⟨a1, a2, a3⟩ := shelf_seek1
    rw [a1, a2, a3] at this
    exact this
  have HLV : Hid (∀ (U : World) (gb ob : Nat), GrsIn (fun _ => True) U (.slice (some ⟨gb, 0, none⟩) 2 2) shelfL → FrsIn (fun _ => True) U (.slice (some ⟨ob, 0, none⟩) 1 1) shelfO → Calls Try.prog 13 #[.agg #[.int .i64 3, .slice (some ⟨gb, 0, none⟩) 2 2, .slice (some ⟨ob, 0, none⟩) 1 1]] U fun e w' => e = .returned (.tuple #[.agg #[.int .i64 1, .int .i64 5, .int .i64 0], .int .i64 0]) ∧ Below U.heap.size U w') := fun U gb ob h1 h2 => by
    have := live_any 3 _ _ shelfL shelfO U h1 h2
    obtain ⟨a1, a2, a3⟩ := shelf_live
    rw [a1, a2, a3] at this
    exact this
  have HPA : Hid (∀ U : World, Calls Try.prog 21 #[.agg #[.int .i64 3, .int .i64 3, .int .i64 1]] U fun e w' => e = .returned (.tuple #[.agg #[.int .i64 2, .int .i64 3, .int .i64 1], .int .i64 0]) ∧ Below U.heap.size U w') := fun U => by
    have := pause_any 3 3 1 U
    rw [show curE 3 3 1 = 0 by kernel_rfl, show pauN 3 3 1 2 = 2 by kernel_rfl, show pauN 3 3 1 3 = 3 by kernel_rfl, show pauN 3 3 1 1 = 1 by kernel_rfl] at this
    exact this
  have HCC : Hid (∀ U : World, Calls Try.prog 26 #[.agg #[.int .i64 3, .int .i64 3, .int .i64 0]] U fun e w' => e = .returned (.int .i64 0) ∧ Below U.heap.size U w') := fun U => by
    have := curCheck_any 3 3 0 U
    rw [show curE 3 3 0 = 0 by kernel_rfl] at this
    exact this
  go_enter Try.func14, Try.ntmps14
  go_wp2_with fail
  refine (shelf_any _).mono ?_
  rintro e w1 ⟨gb, ob, rfl, G1, O1, b1⟩
  go_wp2_with fail
  refine (HSK.out _ _ _ G1 O1).mono ?_
  rintro e w2 ⟨rfl, b2⟩
  obtain ⟨W1, hW1⟩ : ∃ W1, W1 = w2.alloc (.cells #[.int .i64 3, .int .i64 3, .int .i64 0] 41) := ⟨_, rfl⟩
  obtain ⟨CB, hCB⟩ : ∃ n, n = w2.heap.size := ⟨_, rfl⟩
  have KC : Hid (Blk W1 CB #[.int .i64 3, .int .i64 3, .int .i64 0] 41) := by rw [hCB]; exact Blk.newE hW1
  have B1 : Hid (Below w.heap.size w W1) := by
    have h2 : Below w.heap.size w w2 := b1.trans (b2.mono b1.size)
    rw [hW1]; exact h2.alloc h2.size _
  clear b1 b2 G1 O1
  go_wp2_with fail
  rw [← hW1, ← hCB]
  clear hW1 hCB
  refine region_boxes (by kernel_rfl) (by kernel_rfl) [.step 0, .quiet (.agg #[.int .i64 3, .int .i64 3, .int .i64 0]) 4, .step 1, .fin 1 (fun r => r), .fin 1 (exT 0), .fin 1 (exT 1), .fin 1 (exT 2), .fin 1 (exT 3), .fin 1 (exT 4), .box, .box, .step 2, .step 3, .fin 1 (exT 2), .fin 1 (exT 3), .fin 1 (exT 4)] [0, 2, 11, 12] (by kernel_rfl)
    (NxI W1 3 3 1 10 true true false) ?i0 ?step ?fin
  case i0 => exact ⟨⟨rfl, rfl, rfl, Nat.le_refl _, fun _ _ => rfl⟩, fun _ hp => (by cases hp), fun _ hp => (by cases hp), fun h => (by omega), fun h => (by omega), fun h => (by omega), fun h => (by omega)⟩
  case step =>
    intro i o ho a' w' s r b hI hfree hvals hbx
    have f1 : a'.eval (.tmp 1) = .pointer (some ⟨CB, 0, none⟩) := (hfree 1 (by kernel_rfl)).trans rfl
    obtain ⟨y0, y1, y2⟩ := (KC.out.below hI.bel KC.out.lt).three
    have hR : 1 < s → ∃ pa pn pc, r 1 = .tuple #[.agg #[.int .i64 3, .int .i64 3, .int .i64 1], .agg #[.int .i64 10, .bool true, .slice pa pn pc], .bool true, .bool false, .int .i64 0] := fun hs => hI.two hs
    match i, ho with
    | 0, ho =>
      simp at ho; subst ho
      show s = 0 → _
      intro hs
      subst hs
      have ef : a'.eval (.func 37) = .func (.func 37) #[] #[] := rfl
      refine oper_wp_call (f := 37) (args := #[]) ?_ ((shelf_any w').mono ?_)
      · generalize a'.eval = ρ at *
        simp [execOp, go_sem, ef]
      · rintro e w'' ⟨gb, ob, rfl, q1, q2, b1⟩
        exact ⟨_, rfl, _, rfl, NxI.call hI (Nat.zero_le _) b1 _ ⟨gb, ob, rfl, q1, q2⟩⟩
    | 1, ho =>
      simp at ho; subst ho
      show s ≤ 4 → (execOp a'.eval _).run _ w' = .ok (.value _) w'
      intro _
      generalize a'.eval = ρ at *
      simp [execOp, go_sem, f1, y0, y1, y2]
    | 2, ho =>
      simp at ho; subst ho
      show s = 1 → _
      intro hs
      subst hs
      obtain ⟨gb, ob, er, q1, q2⟩ := hI.one rfl
      have e1 : a'.eval (.tmp 23) = .agg #[.int .i64 3, .slice (some ⟨gb, 0, none⟩) 2 2, .slice (some ⟨ob, 0, none⟩) 1 1] := (hvals 0 _ _ (by kernel_rfl) rfl rfl).trans er
      have e2 : a'.eval (.tmp 24) = .agg #[.int .i64 3, .int .i64 3, .int .i64 0] := hvals 1 _ _ (by kernel_rfl) rfl rfl
      have ef : a'.eval (.func 17) = .func (.func 17) #[] #[] := rfl
      have ec : ∀ v, a'.eval (.const v) = v := fun _ => rfl
      refine oper_wp_call (f := 17) (args := #[.agg #[.int .i64 3, .slice (some ⟨gb, 0, none⟩) 2 2, .slice (some ⟨ob, 0, none⟩) 1 1], .agg #[.int .i64 3, .int .i64 3, .int .i64 0], .int .i64 100]) ?_ ((HN1.out w' gb ob q1 q2).mono ?_)
      · generalize a'.eval = ρ at *
        simp [execOp, go_sem, e1, e2, ef, ec]
      · rintro e w'' ⟨pa, pn, pc, rfl, b1⟩
        exact ⟨_, rfl, _, rfl, NxI.call hI (Nat.le_refl _) b1 _ ⟨pa, pn, pc, rfl⟩⟩
    | 3, ho =>
      simp at ho; subst ho
      have e1 : a'.eval (.tmp 25) = r 1 := hvals 2 _ _ (by kernel_rfl) rfl rfl
      show 1 < s → (execOp a'.eval _).run _ w' = .ok (.value _) w'
      intro hs
      obtain ⟨pa, pn, pc, er⟩ := hR hs
      rw [er] at e1 ⊢
      generalize a'.eval = ρ at *
      simp [execOp, go_sem, e1]
    | 4, ho =>
      simp at ho; subst ho
      have e1 : a'.eval (.tmp 22) = r 1 := hvals 3 _ _ (by kernel_rfl) rfl rfl
      show 1 < s → (execOp a'.eval _).run _ w' = .ok (.value _) w'
      intro hs
      obtain ⟨pa, pn, pc, er⟩ := hR hs
      rw [er] at e1 ⊢
      simp only [exT] at e1 ⊢
      generalize a'.eval = ρ at *
      simp [execOp, go_sem, e1]
    | 5, ho =>
      simp at ho; subst ho
      have e1 : a'.eval (.tmp 22) = r 1 := hvals 3 _ _ (by kernel_rfl) rfl rfl
      show 1 < s → (execOp a'.eval _).run _ w' = .ok (.value _) w'
      intro hs
      obtain ⟨pa, pn, pc, er⟩ := hR hs
      rw [er] at e1 ⊢
      simp only [exT] at e1 ⊢
      generalize a'.eval = ρ at *
      simp [execOp, go_sem, e1]
    | 6, ho =>
      simp at ho; subst ho
      have e1 : a'.eval (.tmp 22) = r 1 := hvals 3 _ _ (by kernel_rfl) rfl rfl
      show 1 < s → (execOp a'.eval _).run _ w' = .ok (.value _) w'
      intro hs
      obtain ⟨pa, pn, pc, er⟩ := hR hs
      rw [er] at e1 ⊢
      simp only [exT] at e1 ⊢
      generalize a'.eval = ρ at *
      simp [execOp, go_sem, e1]
    | 7, ho =>
      simp at ho; subst ho
      have e1 : a'.eval (.tmp 22) = r 1 := hvals 3 _ _ (by kernel_rfl) rfl rfl
      show 1 < s → (execOp a'.eval _).run _ w' = .ok (.value _) w'
      intro hs
      obtain ⟨pa, pn, pc, er⟩ := hR hs
      rw [er] at e1 ⊢
      simp only [exT] at e1 ⊢
      generalize a'.eval = ρ at *
      simp [execOp, go_sem, e1]
    | 8, ho =>
      simp at ho; subst ho
      have e1 : a'.eval (.tmp 22) = r 1 := hvals 3 _ _ (by kernel_rfl) rfl rfl
      show 1 < s → (execOp a'.eval _).run _ w' = .ok (.value _) w'
      intro hs
      obtain ⟨pa, pn, pc, er⟩ := hR hs
      rw [er] at e1 ⊢
      simp only [exT] at e1 ⊢
      generalize a'.eval = ρ at *
      simp [execOp, go_sem, e1]
    | 9, ho =>
      simp at ho; subst ho
      show b 9 = none → _
      intro hb
      refine ⟨.cells #[.int .i64 0, .int .i64 0, .int .i64 0] 41, ?_, hI.box9 hb⟩
      generalize a'.eval = ρ at *
      simp [execOp, go_sem]
    | 10, ho =>
      simp at ho; subst ho
      show b 10 = none → _
      intro hb
      refine ⟨.cells #[.int .i64 0, .bool false, .slice none 0 0] 39, ?_, hI.box10 hb⟩
      generalize a'.eval = ρ at *
      simp [execOp, go_sem]
    | 11, ho =>
      simp at ho; subst ho
      show s = 2 → _
      intro hs
      subst hs
      obtain ⟨pa, pn, pc, er⟩ := hR (by omega)
      obtain ⟨p, hp⟩ := Option.isSome_iff_exists.1 (hbx 9 (by kernel_rfl) rfl)
      obtain ⟨g1, g2, g3, _⟩ := hI.nine p hp
      have kg := g3 (Nat.le_refl _)
      have e1 : a'.eval (.tmp 3) = .pointer (some ⟨p, 0, none⟩) := (hvals 9 _ _ (by kernel_rfl) rfl rfl).trans (by show Cm.out r b 9 .box = _; simp [Cm.out, hp])
      have e2 : a'.eval (.tmp 26) = .agg #[.int .i64 3, .int .i64 3, .int .i64 1] := (hvals 4 _ _ (by kernel_rfl) rfl rfl).trans (by show exT 0 (r 1) = _; rw [er]; rfl)
      obtain ⟨t0, t1, t2⟩ := kg.three
      have fr := kg.free
      refine oper_wp_skip (w' := ((w'.setCell ⟨p, 0, none⟩ (.int .i64 3)).setCell ⟨p, 1, none⟩ (.int .i64 3)).setCell ⟨p, 2, none⟩ (.int .i64 1)) ?_ ⟨_, rfl, ?_⟩
      · generalize a'.eval = ρ at *
        simp [execOp, go_sem, e1, e2, t0, t1, t2, fr]
      · exact NxI.put9 hI hp _
    | 12, ho =>
      simp at ho; subst ho
      show s = 3 → _
      intro hs
      subst hs
      obtain ⟨pa, pn, pc, er⟩ := hR (by omega)
      obtain ⟨p, hp⟩ := Option.isSome_iff_exists.1 (hbx 10 (by kernel_rfl) rfl)
      obtain ⟨g1, g3, _⟩ := hI.ten p hp
      have kg := g3 (Nat.le_refl _)
      have e1 : a'.eval (.tmp 4) = .pointer (some ⟨p, 0, none⟩) := (hvals 10 _ _ (by kernel_rfl) rfl rfl).trans (by show Cm.out r b 10 .box = _; simp [Cm.out, hp])
      have e2 : a'.eval (.tmp 27) = .agg #[.int .i64 10, .bool true, .slice pa pn pc] := (hvals 5 _ _ (by kernel_rfl) rfl rfl).trans (by show exT 1 (r 1) = _; rw [er]; rfl)
      obtain ⟨t0, t1, t2⟩ := kg.three
      have fr := kg.free
      refine oper_wp_skip (w' := ((w'.setCell ⟨p, 0, none⟩ (.int .i64 10)).setCell ⟨p, 1, none⟩ (.bool true)).setCell ⟨p, 2, none⟩ (.slice pa pn pc)) ?_ ⟨_, rfl, ?_⟩
      · generalize a'.eval = ρ at *
        simp [execOp, go_sem, e1, e2, t0, t1, t2, fr]
      · exact NxI.put10 hI hp _ _
    | 13, ho =>
      simp at ho; subst ho
      have e1 : a'.eval (.tmp 28) = exT 2 (r 1) := hvals 6 _ _ (by kernel_rfl) rfl rfl
      show 1 < s → (execOp a'.eval _).run _ w' = .ok (.value _) w'
      intro hs
      obtain ⟨pa, pn, pc, er⟩ := hR hs
      rw [er] at e1 ⊢
      simp only [exT] at e1 ⊢
      generalize a'.eval = ρ at *
      simp [execOp, go_sem, e1]
    | 14, ho =>
      simp at ho; subst ho
      have e1 : a'.eval (.tmp 29) = exT 3 (r 1) := hvals 7 _ _ (by kernel_rfl) rfl rfl
      show 1 < s → (execOp a'.eval _).run _ w' = .ok (.value _) w'
      intro hs
      obtain ⟨pa, pn, pc, er⟩ := hR hs
      rw [er] at e1 ⊢
      simp only [exT] at e1 ⊢
      generalize a'.eval = ρ at *
      simp [execOp, go_sem, e1]
    | 15, ho =>
      simp at ho; subst ho
      have e1 : a'.eval (.tmp 30) = exT 4 (r 1) := hvals 8 _ _ (by kernel_rfl) rfl rfl
      show 1 < s → (execOp a'.eval _).run _ w' = .ok (.value _) w'
      intro hs
      obtain ⟨pa, pn, pc, er⟩ := hR hs
      rw [er] at e1 ⊢
      simp only [exT] at e1 ⊢
      generalize a'.eval = ρ at *
      simp [execOp, go_sem, e1]
    | i + 16, ho => simp at ho
  case fin =>
    rintro r b W hI hbxs
    obtain ⟨p, hp⟩ := hbxs 9 (by decide) rfl
    obtain ⟨q, hq⟩ := hbxs 10 (by decide) rfl
    obtain ⟨pa, pn, pc, er⟩ := hI.two (by decide)
    obtain ⟨n1, n2, _, n4⟩ := hI.nine p hp
    obtain ⟨m1, _, m3⟩ := hI.ten q hq
    have KD : Hid (Blk W p #[.int .i64 3, .int .i64 3, .int .i64 1] 41) := n4 (by decide)
    obtain ⟨pv, hpv⟩ := m3 (by decide)
    have KF : Hid (Blk W q #[.int .i64 10, .bool true, pv] 39) := hpv
    have HBW : Hid (Below W1.heap.size W1 W) := hI.bel
    simp only [putM, Cm.out, er, hp, hq, exT, Act.put, List.setIfInBounds_toArray, List.set_cons_succ, List.set_cons_zero, List.getElem?_toArray, List.getElem?_cons_zero, List.getElem?_cons_succ, Option.getD_some]
    clear hI hbxs hp hq er n1 n2 n4 m1 m3 hpv
    have KC2 : Hid (Blk W CB #[.int .i64 3, .int .i64 3, .int .i64 0] 41) := KC.out.below HBW.out KC.out.lt
    have HS := (((KC2.out.stay).and ((KD.out.stay).and KF.out.stay)).and (below_stay (B1.out.trans (HBW.out.mono B1.out.size)) (by have := B1.out.size; have := HBW.out.size; omega))).hid
    clear KC KC2 KD KF HBW B1 HN1 HSK
    go_wp2_with fail
    refine (shelf_any _).mono ?_
    rintro e w3 ⟨gb, ob, rfl, G1, O1, b1⟩
    have HS1 := Stay.go HS b1
    go_wp2_with fail
    refine (HLV.out _ _ _ G1 O1).mono ?_
    rintro e w4 ⟨rfl, b2⟩
    obtain ⟨W4, hW4⟩ : ∃ W4, W4 = w4.alloc (.cells #[.int .i64 1, .int .i64 5, .int .i64 0] 41) := ⟨_, rfl⟩
    obtain ⟨LB, hLB⟩ : ∃ n, n = w4.heap.size := ⟨_, rfl⟩
    have HS2 := (HS1.out.step b2).allocE hW4
    have HL2 : Hid (Stay W4 (fun U => Blk U LB #[.int .i64 1, .int .i64 5, .int .i64 0] 41)) := by rw [hLB]; exact (Blk.newE hW4).stay
    obtain ⟨k0, k1, k2⟩ := HS2.out.now.1.2.1.three
    clear b1 b2 G1 O1 HS HS1 HLV
    subst hW4
    go_wp2_with fail
    rw [← hLB]
    refine (HPA.out _).mono ?_
    rintro e w5 ⟨rfl, b5⟩
    obtain ⟨W5, hW5⟩ : ∃ W5, W5 = w5.alloc (.cells #[.int .i64 2, .int .i64 3, .int .i64 1] 41) := ⟨_, rfl⟩
    obtain ⟨PB, hPB⟩ : ∃ n, n = w5.heap.size := ⟨_, rfl⟩
    have HS3 := (HS2.out.step b5).allocE hW5
    have HL3 := (HL2.out.step b5).allocE hW5
    have KPB : Hid (Blk W5 PB #[.int .i64 2, .int .i64 3, .int .i64 1] 41) := by rw [hPB]; exact Blk.newE hW5
    clear b5 HS2 HL2 k0 k1 k2 HPA hLB
    go_wp2_with fail
    rw [← hW5, ← hPB]
    clear hW5 hPB
    refine region_boxes (by kernel_rfl) (by kernel_rfl) [.step 0, .quiet (.agg #[.int .i64 2, .int .i64 3, .int .i64 1]) 4, .step 1, .fin 1 (fun r => r), .fin 1 (exT 0), .fin 1 (exT 1), .fin 1 (exT 2), .fin 1 (exT 3), .fin 1 (exT 4), .box, .box, .step 2, .step 3, .fin 1 (exT 2), .fin 1 (exT 3), .fin 1 (exT 4)] [0, 2, 11, 12] (by kernel_rfl)
      (NxI W5 2 3 1 0 false false false) ?i0 ?step ?fin
    case i0 => exact ⟨⟨rfl, rfl, rfl, Nat.le_refl _, fun _ _ => rfl⟩, fun _ hp => (by cases hp), fun _ hp => (by cases hp), fun h => (by omega), fun h => (by omega), fun h => (by omega), fun h => (by omega)⟩
    case step =>
      intro i o ho a' w' s r b hI hfree hvals hbx
      have f1 : a'.eval (.tmp 10) = .pointer (some ⟨PB, 0, none⟩) := (hfree 10 (by kernel_rfl)).trans rfl
      obtain ⟨y0, y1, y2⟩ := (KPB.out.below hI.bel KPB.out.lt).three
      have hR : 1 < s → ∃ pa pn pc, r 1 = .tuple #[.agg #[.int .i64 2, .int .i64 3, .int .i64 1], .agg #[.int .i64 0, .bool false, .slice pa pn pc], .bool false, .bool false, .int .i64 0] := fun hs => hI.two hs
      match i, ho with
      | 0, ho =>
        simp at ho; subst ho
        show s = 0 → _
        intro hs
        subst hs
        have ef : a'.eval (.func 37) = .func (.func 37) #[] #[] := rfl
        refine oper_wp_call (f := 37) (args := #[]) ?_ ((shelf_any w').mono ?_)
        · generalize a'.eval = ρ at *
          simp [execOp, go_sem, ef]
        · rintro e w'' ⟨gb, ob, rfl, q1, q2, b1⟩
          exact ⟨_, rfl, _, rfl, NxI.call hI (Nat.zero_le _) b1 _ ⟨gb, ob, rfl, q1, q2⟩⟩
      | 1, ho =>
        simp at ho; subst ho
        show s ≤ 4 → (execOp a'.eval _).run _ w' = .ok (.value _) w'
        intro _
        generalize a'.eval = ρ at *
        simp [execOp, go_sem, f1, y0, y1, y2]
      | 2, ho =>
        simp at ho; subst ho
        show s = 1 → _
        intro hs
        subst hs
        obtain ⟨gb, ob, er, q1, q2⟩ := hI.one rfl
        have e1 : a'.eval (.tmp 42) = .agg #[.int .i64 3, .slice (some ⟨gb, 0, none⟩) 2 2, .slice (some ⟨ob, 0, none⟩) 1 1] := (hvals 0 _ _ (by kernel_rfl) rfl rfl).trans er
        have e2 : a'.eval (.tmp 43) = .agg #[.int .i64 2, .int .i64 3, .int .i64 1] := hvals 1 _ _ (by kernel_rfl) rfl rfl
        have ef : a'.eval (.func 17) = .func (.func 17) #[] #[] := rfl
        have ec : ∀ v, a'.eval (.const v) = v := fun _ => rfl
        refine oper_wp_call (f := 17) (args := #[.agg #[.int .i64 3, .slice (some ⟨gb, 0, none⟩) 2 2, .slice (some ⟨ob, 0, none⟩) 1 1], .agg #[.int .i64 2, .int .i64 3, .int .i64 1], .int .i64 100]) ?_ ((HN2.out w' gb ob q1 q2).mono ?_)
        · generalize a'.eval = ρ at *
          simp [execOp, go_sem, e1, e2, ef, ec]
        · rintro e w'' ⟨pa, pn, pc, rfl, b1⟩
          exact ⟨_, rfl, _, rfl, NxI.call hI (Nat.le_refl _) b1 _ ⟨pa, pn, pc, rfl⟩⟩
      | 3, ho =>
        simp at ho; subst ho
        have e1 : a'.eval (.tmp 44) = r 1 := hvals 2 _ _ (by kernel_rfl) rfl rfl
        show 1 < s → (execOp a'.eval _).run _ w' = .ok (.value _) w'
        intro hs
        obtain ⟨pa, pn, pc, er⟩ := hR hs
        rw [er] at e1 ⊢
        generalize a'.eval = ρ at *
        simp [execOp, go_sem, e1]
      | 4, ho =>
        simp at ho; subst ho
        have e1 : a'.eval (.tmp 41) = r 1 := hvals 3 _ _ (by kernel_rfl) rfl rfl
        show 1 < s → (execOp a'.eval _).run _ w' = .ok (.value _) w'
        intro hs
        obtain ⟨pa, pn, pc, er⟩ := hR hs
        rw [er] at e1 ⊢
        simp only [exT] at e1 ⊢
        generalize a'.eval = ρ at *
        simp [execOp, go_sem, e1]
      | 5, ho =>
        simp at ho; subst ho
        have e1 : a'.eval (.tmp 41) = r 1 := hvals 3 _ _ (by kernel_rfl) rfl rfl
        show 1 < s → (execOp a'.eval _).run _ w' = .ok (.value _) w'
        intro hs
        obtain ⟨pa, pn, pc, er⟩ := hR hs
        rw [er] at e1 ⊢
        simp only [exT] at e1 ⊢
        generalize a'.eval = ρ at *
        simp [execOp, go_sem, e1]
      | 6, ho =>
        simp at ho; subst ho
        have e1 : a'.eval (.tmp 41) = r 1 := hvals 3 _ _ (by kernel_rfl) rfl rfl
        show 1 < s → (execOp a'.eval _).run _ w' = .ok (.value _) w'
        intro hs
        obtain ⟨pa, pn, pc, er⟩ := hR hs
        rw [er] at e1 ⊢
        simp only [exT] at e1 ⊢
        generalize a'.eval = ρ at *
        simp [execOp, go_sem, e1]
      | 7, ho =>
        simp at ho; subst ho
        have e1 : a'.eval (.tmp 41) = r 1 := hvals 3 _ _ (by kernel_rfl) rfl rfl
        show 1 < s → (execOp a'.eval _).run _ w' = .ok (.value _) w'
        intro hs
        obtain ⟨pa, pn, pc, er⟩ := hR hs
        rw [er] at e1 ⊢
        simp only [exT] at e1 ⊢
        generalize a'.eval = ρ at *
        simp [execOp, go_sem, e1]
      | 8, ho =>
        simp at ho; subst ho
        have e1 : a'.eval (.tmp 41) = r 1 := hvals 3 _ _ (by kernel_rfl) rfl rfl
        show 1 < s → (execOp a'.eval _).run _ w' = .ok (.value _) w'
        intro hs
        obtain ⟨pa, pn, pc, er⟩ := hR hs
        rw [er] at e1 ⊢
        simp only [exT] at e1 ⊢
        generalize a'.eval = ρ at *
        simp [execOp, go_sem, e1]
      | 9, ho =>
        simp at ho; subst ho
        show b 9 = none → _
        intro hb
        refine ⟨.cells #[.int .i64 0, .int .i64 0, .int .i64 0] 41, ?_, hI.box9 hb⟩
        generalize a'.eval = ρ at *
        simp [execOp, go_sem]
      | 10, ho =>
        simp at ho; subst ho
        show b 10 = none → _
        intro hb
        refine ⟨.cells #[.int .i64 0, .bool false, .slice none 0 0] 39, ?_, hI.box10 hb⟩
        generalize a'.eval = ρ at *
        simp [execOp, go_sem]
      | 11, ho =>
        simp at ho; subst ho
        show s = 2 → _
        intro hs
        subst hs
        obtain ⟨pa, pn, pc, er⟩ := hR (by omega)
        obtain ⟨p, hp⟩ := Option.isSome_iff_exists.1 (hbx 9 (by kernel_rfl) rfl)
        obtain ⟨g1, g2, g3, _⟩ := hI.nine p hp
        have kg := g3 (Nat.le_refl _)
        have e1 : a'.eval (.tmp 12) = .pointer (some ⟨p, 0, none⟩) := (hvals 9 _ _ (by kernel_rfl) rfl rfl).trans (by show Cm.out r b 9 .box = _; simp [Cm.out, hp])
        have e2 : a'.eval (.tmp 45) = .agg #[.int .i64 2, .int .i64 3, .int .i64 1] := (hvals 4 _ _ (by kernel_rfl) rfl rfl).trans (by show exT 0 (r 1) = _; rw [er]; rfl)
        obtain ⟨t0, t1, t2⟩ := kg.three
        have fr := kg.free
        refine oper_wp_skip (w' := ((w'.setCell ⟨p, 0, none⟩ (.int .i64 2)).setCell ⟨p, 1, none⟩ (.int .i64 3)).setCell ⟨p, 2, none⟩ (.int .i64 1)) ?_ ⟨_, rfl, ?_⟩
        · generalize a'.eval = ρ at *
          simp [execOp, go_sem, e1, e2, t0, t1, t2, fr]
        · exact NxI.put9 hI hp _
      | 12, ho =>
        simp at ho; subst ho
        show s = 3 → _
        intro hs
        subst hs
        obtain ⟨pa, pn, pc, er⟩ := hR (by omega)
        obtain ⟨p, hp⟩ := Option.isSome_iff_exists.1 (hbx 10 (by kernel_rfl) rfl)
        obtain ⟨g1, g3, _⟩ := hI.ten p hp
        have kg := g3 (Nat.le_refl _)
        have e1 : a'.eval (.tmp 13) = .pointer (some ⟨p, 0, none⟩) := (hvals 10 _ _ (by kernel_rfl) rfl rfl).trans (by show Cm.out r b 10 .box = _; simp [Cm.out, hp])
        have e2 : a'.eval (.tmp 46) = .agg #[.int .i64 0, .bool false, .slice pa pn pc] := (hvals 5 _ _ (by kernel_rfl) rfl rfl).trans (by show exT 1 (r 1) = _; rw [er]; rfl)
        obtain ⟨t0, t1, t2⟩ := kg.three
        have fr := kg.free
        refine oper_wp_skip (w' := ((w'.setCell ⟨p, 0, none⟩ (.int .i64 0)).setCell ⟨p, 1, none⟩ (.bool false)).setCell ⟨p, 2, none⟩ (.slice pa pn pc)) ?_ ⟨_, rfl, ?_⟩
        · generalize a'.eval = ρ at *
          simp [execOp, go_sem, e1, e2, t0, t1, t2, fr]
        · exact NxI.put10 hI hp _ _
      | 13, ho =>
        simp at ho; subst ho
        have e1 : a'.eval (.tmp 47) = exT 2 (r 1) := hvals 6 _ _ (by kernel_rfl) rfl rfl
        show 1 < s → (execOp a'.eval _).run _ w' = .ok (.value _) w'
        intro hs
        obtain ⟨pa, pn, pc, er⟩ := hR hs
        rw [er] at e1 ⊢
        simp only [exT] at e1 ⊢
        generalize a'.eval = ρ at *
        simp [execOp, go_sem, e1]
      | 14, ho =>
        simp at ho; subst ho
        have e1 : a'.eval (.tmp 48) = exT 3 (r 1) := hvals 7 _ _ (by kernel_rfl) rfl rfl
        show 1 < s → (execOp a'.eval _).run _ w' = .ok (.value _) w'
        intro hs
        obtain ⟨pa, pn, pc, er⟩ := hR hs
        rw [er] at e1 ⊢
        simp only [exT] at e1 ⊢
        generalize a'.eval = ρ at *
        simp [execOp, go_sem, e1]
      | 15, ho =>
        simp at ho; subst ho
        have e1 : a'.eval (.tmp 49) = exT 4 (r 1) := hvals 8 _ _ (by kernel_rfl) rfl rfl
        show 1 < s → (execOp a'.eval _).run _ w' = .ok (.value _) w'
        intro hs
        obtain ⟨pa, pn, pc, er⟩ := hR hs
        rw [er] at e1 ⊢
        simp only [exT] at e1 ⊢
        generalize a'.eval = ρ at *
        simp [execOp, go_sem, e1]
      | i + 16, ho => simp at ho
    case fin =>
      rintro r b Y hI hbxs
      obtain ⟨p, hp⟩ := hbxs 9 (by decide) rfl
      obtain ⟨q, hq⟩ := hbxs 10 (by decide) rfl
      obtain ⟨pa, pn, pc, er⟩ := hI.two (by decide)
      obtain ⟨n1, n2, _, n4⟩ := hI.nine p hp
      obtain ⟨m1, _, m3⟩ := hI.ten q hq
      have KD5 : Hid (Blk Y p #[.int .i64 2, .int .i64 3, .int .i64 1] 41) := n4 (by decide)
      obtain ⟨pv, hpv⟩ := m3 (by decide)
      have KF5 : Hid (Blk Y q #[.int .i64 0, .bool false, pv] 39) := hpv
      have HBY : Hid (Below W5.heap.size W5 Y) := hI.bel
      simp only [putM, Cm.out, er, hp, hq, exT, Act.put, List.setIfInBounds_toArray, List.set_cons_succ, List.set_cons_zero, List.getElem?_toArray, List.getElem?_cons_zero, List.getElem?_cons_succ, Option.getD_some]
      clear hI hbxs hp hq er n1 n2 n4 m1 m3 hpv
      have HS4 := Stay.go HS3 HBY.out
      have HL4 := Stay.go HL3 HBY.out
      have HP4 : Hid (Stay Y (fun U => Blk U PB #[.int .i64 2, .int .i64 3, .int .i64 1] 41)) := (KPB.out.below HBY.out KPB.out.lt).stay
      clear HS3 HL3 KPB KD5 KF5 HBY HN2
      obtain ⟨k0, k1, k2⟩ := HS4.out.now.1.1.three
      go_wp2_with fail
      refine (HCC.out _).mono ?_
      rintro e w8 ⟨rfl, b8⟩
      have HS5 := Stay.go HS4 b8
      obtain ⟨k0, k1, k2⟩ := HS5.out.now.1.1.three
      obtain ⟨d0, d1, d2⟩ := HS5.out.now.1.2.1.three
      obtain ⟨g0, g1, g2⟩ := HS5.out.now.1.2.2.three
      obtain ⟨l0, l1, l2⟩ := (HL4.out.step b8).now.three
      obtain ⟨p0, p1, p2⟩ := (HP4.out.step b8).now.three
      clear b8 HS4 HL4 HP4
      go_wp2
      go_ret
      exact ⟨rfl, HS5.out.now.2⟩

end Go.Proofs.Ytnpaejknoipicae

namespace Go.Proofs.Ytnpaejknoipicae
open Go.RowKit

theorem heldB {W X Y : World} {a b : Addr} {u v : Value} (h : X.cell? a = some u ∧ X.cell? b = some v ∧ Below W.heap.size W X) (k : Below X.heap.size X Y) : Y.cell? a = some u ∧ Y.cell? b = some v ∧ Below W.heap.size W Y :=
  ⟨(k.cell (block_lt_of_cell h.1)).trans h.1, (k.cell (block_lt_of_cell h.2.1)).trans h.2.1, h.2.2.trans (k.mono h.2.2.size)⟩

set_option maxHeartbeats 8000000 in
set_option maxRecDepth 100000 in
theorem storeBegun_any (w : World) :
    Calls Try.prog 15 #[] w fun e w' => e = .returned (.bool true) ∧ Below w.heap.size w w' := by
  have HSH : Hid (∀ U : World, Calls Try.prog 37 #[] U fun e w' => ∃ gb ob, e = .returned (.agg #[.int .i64 3, .slice (some ⟨gb, 0, none⟩) 2 2, .slice (some ⟨ob, 0, none⟩) 1 1]) ∧ Hid (GrsIn (fun _ => True) w' (.slice (some ⟨gb, 0, none⟩) 2 2) shelfL) ∧ Hid (FrsIn (fun _ => True) w' (.slice (some ⟨ob, 0, none⟩) 1 1) shelfO) ∧ Below U.heap.size U w') := shelf_any
  go_enter Try.func15, Try.ntmps15
  go_wp2_with fail
  refine (HSH.out _).mono ?_
  rintro e w1 ⟨g1, o1, rfl, G1, O1, b1⟩
  go_wp2_with fail
  refine (pic_any _ _ _).mono ?_
  rintro e w2 ⟨rfl, S2, b2⟩
  go_wp2_with fail
  have A1 := storeAdd_any 3 (.slice (some ⟨g1, 0, none⟩) 2 2) (.slice (some ⟨o1, 0, none⟩) 1 1) (.slice (some ⟨w1.heap.size + 1, 0, none⟩) 1 1) shelfL shelfO (picF 40 true) w2 (G1.out.below b2) (O1.out.below b2) (S2.mono fun _ _ _ => trivial)
  rw [shelf_addE, shelf_addB] at A1
  refine A1.mono ?_
  rintro e w3 ⟨gv, ov, rfl, hgv, hov, b3⟩
  obtain ⟨va, vc, ev, _, _⟩ := hgv.len
  rw [shelf_addL] at ev
  obtain ⟨qa, qc, eq, _, _⟩ := hov.len
  subst ev eq
  obtain ⟨F, hF⟩ : ∃ F, F = addsF 3 shelfL shelfO (picF 40 true) := ⟨_, rfl⟩
  obtain ⟨nq, hnq⟩ : ∃ n, n = (addsO 3 shelfL shelfO (picF 40 true)).length := ⟨_, rfl⟩
  rw [← hF, ← hnq]
  clear hF hgv hov A1 hnq
  have B3 : Below w.heap.size w w3 := (b1.trans (b2.mono b1.size)).trans (b3.mono (by have := b1.size; have := b2.size; omega))
  obtain ⟨W4, hW4⟩ : ∃ W4, W4 = w3.alloc (.cells #[.int .i64 F, .slice va 3 vc, .slice qa nq qc] 36) := ⟨_, rfl⟩
  have K4 : Hid (Blk W4 w3.heap.size #[.int .i64 F, .slice va 3 vc, .slice qa nq qc] 36) := by rw [hW4]; exact Blk.new _ _ _
  have B4 : Hid (Below w.heap.size w W4) := by rw [hW4]; exact B3.alloc B3.size _
  clear b1 b2 b3 B3 G1 O1 S2
  go_wp2_with fail
  rw [← hW4]
  clear hW4
  refine (HSH.out _).mono ?_
  rintro e w5 ⟨g5, o5, rfl, G5, O5, b5⟩
  have K5 : Hid (Blk w5 w3.heap.size #[.int .i64 F, .slice va 3 vc, .slice qa nq qc] 36) := K4.out.below b5 K4.out.lt
  have B5 : Hid (Below w.heap.size w w5) := B4.out.trans (b5.mono B4.out.size)
  clear b5 K4 B4
  have A5 := storeSeek_any 3 (.slice (some ⟨g5, 0, none⟩) 2 2) (.slice (some ⟨o5, 0, none⟩) 1 1) shelfL shelfO 25 w5 G5.out O5.out
  rw [shelf_seekE, shelf_seekN] at A5
  go_wp2_with fail
  refine A5.mono ?_
  rintro e w6 ⟨rfl, b6⟩
  have K6 : Hid (Blk w6 w3.heap.size #[.int .i64 F, .slice va 3 vc, .slice qa nq qc] 36) := K5.out.below b6 K5.out.lt
  have B6 : Hid (Below w.heap.size w w6) := B5.out.trans (b6.mono B5.out.size)
  clear b6 K5 B5 A5 G5 O5
  go_wp2_with fail
  refine (HSH.out _).mono ?_
  rintro e w7 ⟨g7, o7, rfl, G7, O7, b7⟩
  have A7 := storeGet_any 3 (.slice (some ⟨g7, 0, none⟩) 2 2) (.slice (some ⟨o7, 0, none⟩) 1 1) shelfL shelfO 5 w7 G7.out O7.out (by omega)
  rw [shelf_get5E, shelf_get5G, show shelfO.length = 1 from rfl] at A7
  have K7 : Hid (Blk w7 w3.heap.size #[.int .i64 F, .slice va 3 vc, .slice qa nq qc] 36) := K6.out.below b7 K6.out.lt
  have B7 : Hid (Below w.heap.size w w7) := B6.out.trans (b7.mono B6.out.size)
  clear b7 K6 B6
  go_wp2_with fail
  refine A7.mono ?_
  rintro e w8 ⟨a8, c8, rfl, F8, b8⟩
  obtain ⟨W9, hW9⟩ : ∃ W9, W9 = w8.alloc (.cells #[.slice a8 1 c8] 34) := ⟨_, rfl⟩
  have bb9 : Below w7.heap.size w7 W9 := by rw [hW9]; exact b8.alloc b8.size _
  have K9 : Hid (Blk W9 w3.heap.size #[.int .i64 F, .slice va 3 vc, .slice qa nq qc] 36) := K7.out.below bb9 K7.out.lt
  have J9 : Hid (Blk W9 w8.heap.size #[.slice a8 1 c8] 34) := by rw [hW9]; exact Blk.new _ _ _
  have F9 : Hid (FrsIn (fun _ => True) W9 (.slice a8 1 c8) shelfO) := by rw [hW9]; exact F8.alloc _
  have B9 : Hid (Below w.heap.size w W9) := B7.out.trans (bb9.mono B7.out.size)
  clear b8 bb9 K7 B7 A7 G7 O7 F8
  go_wp2_with fail
  rw [← hW9]
  clear hW9
  refine (HSH.out _).mono ?_
  rintro e w10 ⟨g10, o10, rfl, G10, O10, b10⟩
  have A10 := storeGet_any 3 (.slice (some ⟨g10, 0, none⟩) 2 2) (.slice (some ⟨o10, 0, none⟩) 1 1) shelfL shelfO 6 w10 G10.out O10.out (by omega)
  rw [shelf_get6E, shelf_get6G, show ([] : List Fr).length = 0 from rfl] at A10
  have K10 : Hid (Blk w10 w3.heap.size #[.int .i64 F, .slice va 3 vc, .slice qa nq qc] 36) := K9.out.below b10 K9.out.lt
  have J10 : Hid (Blk w10 w8.heap.size #[.slice a8 1 c8] 34) := J9.out.below b10 J9.out.lt
  have F10 : Hid (FrsIn (fun _ => True) w10 (.slice a8 1 c8) shelfO) := F9.out.below b10
  have B10 : Hid (Below w.heap.size w w10) := B9.out.trans (b10.mono B9.out.size)
  clear b10 K9 J9 F9 B9
  go_wp2_with fail
  refine A10.mono ?_
  rintro e w11 ⟨a11, c11, rfl, _, b11⟩
  obtain ⟨W, hW⟩ : ∃ W, W = w11.alloc (.cells #[.slice a11 0 c11] 34) := ⟨_, rfl⟩
  have bW : Below w10.heap.size w10 W := by rw [hW]; exact b11.alloc b11.size _
  have KW : Hid (Blk W w3.heap.size #[.int .i64 F, .slice va 3 vc, .slice qa nq qc] 36) := K10.out.below bW K10.out.lt
  have JW : Hid (Blk W w8.heap.size #[.slice a8 1 c8] 34) := J10.out.below bW J10.out.lt
  have FW : Hid (FrsIn (fun _ => True) W (.slice a8 1 c8) shelfO) := F10.out.below bW
  have BW : Hid (Below w.heap.size w W) := B10.out.trans (bW.mono B10.out.size)
  clear b11 bW K10 J10 F10 B10 A10 G10 O10
  go_wp2_with fail
  rw [← hW]
  clear hW
  obtain ⟨k0, k1, k2⟩ := KW.out.three
  have j0 := JW.out.one
  have HCK : Hid (∀ (U : World) (gb ob : Nat), GrsIn (fun _ => True) U (.slice (some ⟨gb, 0, none⟩) 2 2) shelfL → FrsIn (fun _ => True) U (.slice (some ⟨ob, 0, none⟩) 1 1) shelfO → Calls Try.prog 40 #[.agg #[.int .i64 3, .slice (some ⟨gb, 0, none⟩) 2 2, .slice (some ⟨ob, 0, none⟩) 1 1]] U fun e w' => e = .returned (.int .i64 0) ∧ Below U.heap.size U w') := fun U gb ob h1 h2 => by
    have := storeCheck_any _ 3 _ _ shelfL shelfO U h1 h2
    rw [shelf_chk] at this
    exact this
  have hfd : ∀ (g o : Nat) (U : World), (Instr.field 36 (.agg #[.int .i64 3, .slice (some ⟨g, 0, none⟩) 2 2, .slice (some ⟨o, 0, none⟩) 1 1]) 2).run Try.prog U = .ok (.agg #[.slice (some ⟨o, 0, none⟩) 1 1]) U := fun g o U => by kernel_rfl
  have hfe : ∀ (o : Nat) (U : World), (Instr.field 34 (.agg #[.slice (some ⟨o, 0, none⟩) 1 1]) 0).run Try.prog U = .ok (.slice (some ⟨o, 0, none⟩) 1 1) U := fun o U => by kernel_rfl
  have HSF : Hid (∀ (U : World) (o : Nat), (U.cell? ⟨w3.heap.size, 1, none⟩ = some (.slice va 3 vc) ∧ U.cell? ⟨w8.heap.size, 0, none⟩ = some (.slice a8 1 c8) ∧ Below W.heap.size W U) → FrsIn (fun _ => True) U (.slice (some ⟨o, 0, none⟩) 1 1) shelfO → Calls Try.prog 28 #[.slice a8 1 c8, .slice (some ⟨o, 0, none⟩) 1 1] U fun e w' => e = .returned (.bool true) ∧ Below U.heap.size U w') := fun U o h1 h2 => by
    have := sameFrames_any _ _ _ _ U (FW.out.below h1.2.2).frs h2.frs (by show 1 ≤ _; omega)
    rw [show sameFs shelfO shelfO = true from decide_eq_true rfl] at this
    exact this
  go_region_held3 (fun w' => w'.cell? ⟨w3.heap.size, 1, none⟩ = some (.slice va 3 vc) ∧ w'.cell? ⟨w8.heap.size, 0, none⟩ = some (.slice a8 1 c8) ∧ Below W.heap.size W w') (first | exact ⟨k1, j0, Below.drew (Below.refl _ _)⟩ | exact heldB (by assumption) (by assumption) | (refine heldB ?_ ?_ <;> assumption))
    (first
      | (go_at_call 37; refine (HSH.out _).mono ?_; rintro e w12 ⟨g12, o12, rfl, G12, O12, b12⟩)
      | (go_at_call 40; refine (HCK.out _ _ _ G12.out O12.out).mono ?_; rintro e w13 ⟨rfl, b13⟩)
      | (go_at_call 28; refine (HSF.out _ _ (by assumption) O12.out).mono ?_; rintro e w14 ⟨rfl, b14⟩))
  have hS : w14.cell? ⟨w3.heap.size, 1, none⟩ = some (.slice va 3 vc) ∧ w14.cell? ⟨w8.heap.size, 0, none⟩ = some (.slice a8 1 c8) ∧ Below W.heap.size W w14 := by assumption
  have B14 : Hid (Below w.heap.size w w14) := BW.out.trans (hS.2.2.mono BW.out.size)
  clear hS
  go_wp2_with fail
  go_ret
  exact ⟨rfl, B14.out⟩

end Go.Proofs.Ytnpaejknoipicae

namespace Go.Proofs.Ytnpaejknoipicae
open Go.RowKit Go.Sort

set_option maxHeartbeats 2000000 in
theorem refCheckGroup_any (S : Nat → Prop) (v : Value) (l : List Fr) (w : World) (hv : FrsIn S w v l) :
    Calls Try.prog 47 #[.agg #[v]] w fun e w' => e = .returned (.int .i64 (gchk l)) ∧ Below w.heap.size w w' := by
  obtain ⟨ao, c, hva, h1, h2, hc⟩ := hv
  have HC : Hid (∀ k, k < l.length → ∃ b off, ao = some ⟨b, off, none⟩ ∧ b < w.heap.size ∧ S b ∧ At3In S w b (off + k * 3) (l[k]?.getD Fr.zero)) := hc
  obtain ⟨n, hn⟩ : ∃ n, n = l.length := ⟨_, rfl⟩
  have HN : Hid (n = l.length) := hn
  obtain ⟨G, hG⟩ : ∃ G, G = gchk l := ⟨_, rfl⟩
  have HG : Hid (G = if n = 0 then 5 else if 6 < n then 2 else goN (gerr l) n 0) := by show _ = _; rw [hG, hn]; rfl
  rw [← hn] at hva h1
  rw [← hG]
  clear hc hn hG
  subst hva
  by_cases h0 : n = 0
  · have hg : G = 5 := by rw [HG.out, if_pos h0]
    rw [hg]
    subst h0
    go_enter Try.func47, Try.ntmps47
    go_wp2
    go_ret
    exact ⟨rfl, by go_grown⟩
  have h0i : ((n : Int) == 0) = false := by simpa using h0
  by_cases h6 : 6 < n
  · have hg : G = 2 := by rw [HG.out, if_neg h0, if_pos h6]
    rw [hg]
    go_enter Try.func47, Try.ntmps47
    go_wp2
    go_ret
    exact ⟨rfl, by go_grown⟩
  have HG2 : Hid (G = goN (gerr l) n 0) := by show _ = _; rw [HG.out, if_neg h0, if_neg h6]
  have hn6 : n ≤ 6 := by omega
  clear HG h0 h6
  go_enter Try.func47, Try.ntmps47
  go_wp2_with fail
  go_loopw [3] (fun i wr => ∃ k : Nat, k ≤ n ∧ i = .int .i64 k ∧ Hid (∀ j, j < k → gerr l j = 0) ∧ Hid (Blk wr w.heap.size #[.slice ao n c] 34) ∧ Hid (Below w.heap.size w wr))
    (fun i _ => n - (intOf i).toNat)
  case atStart => exact ⟨0, Nat.zero_le _, rfl, (show ∀ j, j < 0 → _ from fun j hj => absurd hj (Nat.not_lt_zero _)), Blk.new w _ _, (Below.refl _ w).alloc (Nat.le_refl _) _⟩
  case round =>
    obtain ⟨k, hk, rfl, HK, KB, HB⟩ := hrel
    have b0 := KB.out.one
    by_cases hlt : k < n
    · obtain ⟨b, off, hao, hb, _, pv, c0, c1, c2, hp⟩ := HC.out k (by rw [← HN.out]; exact hlt)
      subst hao
      have d0 := (HB.out.cell (p := ⟨b, off + k * 3, none⟩) hb).trans c0
      have d1 := (HB.out.cell (p := ⟨b, off + k * 3 + 1, none⟩) hb).trans c1
      have d2 := (HB.out.cell (p := ⟨b, off + k * 3 + 2, none⟩) hb).trans c2
      obtain ⟨f, hf⟩ : ∃ f, f = frAt l k := ⟨_, rfl⟩
      rw [show (l[k]?.getD Fr.zero) = f from hf.symm] at c0 c1 d0 d1 hp
      obtain ⟨pa, pc, ep⟩ := hp.1.len
      obtain ⟨pn, hpn⟩ : ∃ pn, pn = f.parts.length := ⟨_, rfl⟩
      rw [← hpn] at ep
      subst ep
      obtain ⟨ft, fk, fp⟩ := f
      simp only at c0 c1 d0 d1 d2 hp hpn
      obtain ⟨ck, hck⟩ : ∃ ck, ck = chkF ft fp := ⟨_, rfl⟩
      have HCF : Hid (∀ w' : World, Strs w' (.slice pa pn pc) fp → Calls Try.prog 61 #[.agg #[.int .i64 ft, .bool fk, .slice pa pn pc]] w' fun e w'' => e = .returned (.int .i64 ck) ∧ Below w'.heap.size w' w'') := fun w' hs => by rw [hck]; exact refCheckFrame_any ft fk _ fp w' hs hp.2.1
      have HP : Hid (Strs wr (.slice pa pn pc) fp) := hp.1.below HB.out
      have HCK : Hid ((frAt l k).chk = ck) := by show _ = _; rw [← hf, hck]; rfl
      have hlti : (k : Int) < (n : Int) := by omega
      have hbw := KB.out.lt
      have HC0 : Hid (w.cell? ⟨b, off + k * 3, none⟩ = some (.int .i64 ft)) := c0
      have HC1 : Hid (w.cell? ⟨b, off + k * 3 + 1, none⟩ = some (.bool fk)) := c1
      have HF : Hid ((frAt l k).time = ft ∧ (frAt l k).key = fk) := by rw [← hf]; exact ⟨rfl, rfl⟩
      clear c0 c1 c2 hp hf hck hpn
      go_wp2_with fail
      refine (HCF.out _ HP.out).mono ?_
      rintro e w1 ⟨rfl, hb1⟩
      have K1 : Hid (Blk w1 w.heap.size #[.slice (some ⟨b, off, none⟩) n c] 34) := KB.out.below hb1 KB.out.lt
      have BB1 : Hid (Below w.heap.size w w1) := HB.out.trans (hb1.mono HB.out.size)
      clear hb1 d0 d1 d2 b0
      have b1 := K1.out.one
      by_cases hc0 : ck = 0
      · subst hc0
        have d0 := (BB1.out.cell (p := ⟨b, off + k * 3, none⟩) hb).trans HC0.out
        have d1 := (BB1.out.cell (p := ⟨b, off + k * 3 + 1, none⟩) hb).trans HC1.out
        have BAD : Hid (inPl l k = false → G = 4) := fun h => by
          have he : gerr l k = 4 := by unfold gerr; rw [if_pos HCK.out, h]; rfl
          rw [HG2.out, goN_hit n 0 k (Nat.zero_le _) (by omega) (fun j _ hj => HK.out j hj) (by rw [he]; decide), he]
        have GOOD : Hid (inPl l k = true → ∀ j, j < k + 1 → gerr l j = 0) := fun h j hj => by
          by_cases e : j = k
          · subst e; exact gerr_zero.2 ⟨HCK.out, h⟩
          · exact HK.out j (by omega)
        by_cases hk0 : k = 0
        · have hki : ((k : Int) == 0) = true := by simpa using hk0
          have hkd : decide (0 < k) = false := decide_eq_false (by omega)
          have HIP : Hid (inPl l k = fk) := by show _ = _; unfold inPl; rw [if_pos hk0]; exact HF.out.2
          clear hk0
          cases fk
          · have HGE : Hid (G = 4) := BAD.out HIP.out
            go_wp2_with fail
            go_quiet (fail)
            go_wp2
            go_ret
            exact ⟨by rw [HGE.out]; rfl, below_drewN BB1.out _⟩
          · have HGO : Hid (∀ j, j < k + 1 → gerr l j = 0) := GOOD.out HIP.out
            go_wp2_with fail
            go_quiet (fail)
            go_wp2
            go_roundw
            case rel => exact ⟨k + 1, by omega, by go_num, HGO, K1.out, below_drewN BB1.out _⟩
            case measure => simp [intOf]; omega
        · have hki : ((k : Int) == 0) = false := by simpa using hk0
          have hkd : decide (0 < k) = true := decide_eq_true (by omega)
          obtain ⟨b', off', e1, hb', _, pv', t0, _⟩ := HC.out (k - 1) (by rw [← HN.out]; omega)
          injection e1 with e1
          injection e1 with e1 e2
          subst e1 e2
          obtain ⟨k1, hk1⟩ : ∃ k1, k1 = k - 1 := ⟨_, rfl⟩
          rw [← hk1] at t0
          have t1 := (BB1.out.cell (p := ⟨b, off + k1 * 3, none⟩) hb').trans t0
          obtain ⟨tt, htt⟩ : ∃ tt, tt = (frAt l k1).time := ⟨_, rfl⟩
          rw [← htt] at t1
          have hk1i : (k : Int) - 1 = (k1 : Int) := by omega
          have hk1l : (k1 : Int) < (n : Int) := by omega
          have hk1w : IntKind.i64.wrap (k1 : Int) = (k1 : Int) := by rw [IntKind.wrap_i64]; omega
          have HIP : Hid (inPl l k = (!fk && decide (tt ≤ ft))) := by show _ = _; unfold inPl; rw [if_neg hk0, HF.out.1, HF.out.2, htt, hk1]
          clear hk0 hk1 htt t0
          cases fk
          · by_cases hti : ft < tt
            · have HGE : Hid (G = 4) := BAD.out (by rw [HIP.out]; simp; omega)
              go_wp2_with fail
              go_quiet (fail)
              go_wp2
              go_ret
              exact ⟨by rw [HGE.out]; rfl, below_drewN BB1.out _⟩
            · have HGO : Hid (∀ j, j < k + 1 → gerr l j = 0) := GOOD.out (by rw [HIP.out]; simp; omega)
              go_wp2_with fail
              go_quiet (fail)
              go_wp2
              go_roundw
              case rel => exact ⟨k + 1, by omega, by go_num, HGO, K1.out, below_drewN BB1.out _⟩
              case measure => simp [intOf]; omega
          · have HGE : Hid (G = 4) := BAD.out (by rw [HIP.out]; rfl)
            go_wp2_with fail
            go_quiet (fail)
            go_wp2
            go_ret
            exact ⟨by rw [HGE.out]; rfl, below_drewN BB1.out _⟩
      · have HGE : Hid (G = ck) := by
          show _ = _
          have he : gerr l k = ck := by unfold gerr; rw [if_neg (by rw [HCK.out]; exact hc0), HCK.out]
          rw [HG2.out, goN_hit n 0 k (Nat.zero_le _) (by omega) (fun j _ hj => HK.out j hj) (by rw [he]; exact hc0), he]
        go_wp2
        go_ret
        exact ⟨by rw [HGE.out]; rfl, BB1.out⟩
    · have hkl : k = n := by omega
      subst hkl
      have HGE : Hid (G = 0) := by show _ = _; rw [HG2.out]; exact goN_all _ _ (fun j _ hj => HK.out j (by omega))
      go_wp2
      go_ret
      exact ⟨by rw [HGE.out]; rfl, HB.out⟩

set_option maxHeartbeats 2000000 in
theorem sizeOf_any (S : Nat → Prop) (v : Value) (l : List Fr) (w : World) (hv : FrsIn S w v l) (hG : gchk l = 0) :
    Calls Try.prog 29 #[.agg #[v]] w fun e w' => e = .returned (.int .i64 (szG l)) ∧ Below w.heap.size w w' := by
  obtain ⟨ao, c, hva, h1, h2, hc⟩ := hv
  have HC : Hid (∀ k, k < l.length → ∃ b off, ao = some ⟨b, off, none⟩ ∧ b < w.heap.size ∧ S b ∧ At3In S w b (off + k * 3) (l[k]?.getD Fr.zero)) := hc
  obtain ⟨n, hn⟩ : ∃ n, n = l.length := ⟨_, rfl⟩
  have HN : Hid (n = l.length) := hn
  obtain ⟨Z, hZ⟩ : ∃ Z, Z = szG l := ⟨_, rfl⟩
  have HZ2 : Hid (Z = szG l) := hZ
  have hg := gchk_zero.1 hG
  rw [← hn] at hva h1
  have hn6 : n ≤ 6 := by rw [hn]; exact hg.2.1
  have HFR : Hid (∀ k, k < n → (frAt l k).chk = 0) := fun k hk => (hg.2.2 k (by rw [← HN.out]; exact hk)).1
  have HLE : Hid (∀ k, k ≤ n → szG (l.take k) ≤ k * 32) := fun k hk => szG_le (fun j hj => fr_szP (hg.2.2 j hj).1) k (by rw [← HN.out]; exact hk)
  rw [← hZ]
  clear hc hn hZ hG hg
  subst hva
  go_enter Try.func29, Try.ntmps29
  go_wp2_with fail
  go_loopw [3, 4] (fun s i wr => ∃ (k z : Nat), k ≤ n ∧ i = .int .i64 k ∧ s = .int .i64 z ∧ Hid (z = szG (l.take k)) ∧ Hid (Blk wr w.heap.size #[.slice ao n c] 34) ∧ Hid (Below w.heap.size w wr))
    (fun _ i _ => n - (intOf i).toNat)
  case atStart => exact ⟨0, 0, Nat.zero_le _, rfl, rfl, (show 0 = szG (l.take 0) from rfl), Blk.new w _ _, (Below.refl _ w).alloc (Nat.le_refl _) _⟩
  case round =>
    obtain ⟨k, z, hk, rfl, rfl, HZK, KB, HB⟩ := hrel
    have b0 := KB.out.one
    by_cases hlt : k < n
    · obtain ⟨b, off, hao, hb, _, pv, c0, c1, c2, hp⟩ := HC.out k (by rw [← HN.out]; exact hlt)
      subst hao
      have d2 := (HB.out.cell (p := ⟨b, off + k * 3 + 2, none⟩) hb).trans c2
      obtain ⟨f, hf⟩ : ∃ f, f = frAt l k := ⟨_, rfl⟩
      rw [show (l[k]?.getD Fr.zero) = f from hf.symm] at hp
      obtain ⟨po, pc, ep, hpc⟩ := (hp.1.below HB.out).parts
      obtain ⟨pn, hpn⟩ : ∃ pn, pn = f.parts.length := ⟨_, rfl⟩
      have HPC : Hid (∀ j, j < f.parts.length → ∃ b off, po = some ⟨b, off, none⟩ ∧ b < wr.heap.size ∧ wr.cell? ⟨b, off + j, none⟩ = some (.string (f.parts[j]?.getD ByteArray.empty))) := hpc
      have HPN : Hid (pn = f.parts.length) := hpn
      rw [← hpn] at ep
      subst ep
      have hlti : (k : Int) < (n : Int) := by omega
      have hfz := HFR.out k hlt
      rw [← hf] at hfz
      have hp4 : pn ≤ 4 := by rw [hpn]; exact (chkF_zero hfz).2.2.2.1
      have hp8 : ∀ j, j < pn → (f.parts[j]?.getD ByteArray.empty).size ≤ 8 := fun j hj => by
        rw [List.getElem?_eq_getElem (by omega), Option.getD_some]
        exact (chkF_zero hfz).2.2.2.2 _ (List.getElem_mem _)
      have HP8 : Hid (∀ j, j < pn → (f.parts[j]?.getD ByteArray.empty).size ≤ 8) := hp8
      have hz := HLE.out k hk
      rw [← HZK.out] at hz
      have HSU : Hid (szG (l.take (k + 1)) = z + szP f.parts) := by show _ = _; rw [szG_take l k (by rw [← HN.out]; exact hlt), ← HZK.out, hf]
      clear c0 c1 c2 hp hpc hpn hfz hp8 hf
      go_wp2_with fail
      go_loopw [3, 5] (fun s i wi => ∃ (j y : Nat), j ≤ pn ∧ i = .int .i64 j ∧ s = .int .i64 y ∧ Hid (y = z + szP (f.parts.take j)) ∧ Hid (y ≤ z + j * 8) ∧ wr = wi)
        (fun _ i _ => pn - (intOf i).toNat)
      case atStart => exact ⟨0, z, Nat.zero_le _, rfl, rfl, (show z = z + szP (f.parts.take 0) from rfl), (show _ ≤ _ from Nat.le_refl _), rfl⟩
      case round =>
        obtain ⟨j, y, hj, rfl, rfl, HY, HYL, rfl⟩ := hrel
        by_cases hjl : j < pn
        · obtain ⟨b2, off2, hpo, hb2, hct⟩ := HPC.out j (by rw [← HPN.out]; exact hjl)
          obtain ⟨s, hs⟩ : ∃ s, s = f.parts[j]?.getD ByteArray.empty := ⟨_, rfl⟩
          have h8 := HP8.out j hjl
          have HNY : Hid (y + s.size = z + szP (f.parts.take (j + 1))) := by show _ = _; rw [szP_take f.parts j (by rw [← HPN.out]; exact hjl), HY.out, ← hs]; omega
          rw [← hs] at hct h8
          subst hpo
          have hji : (j : Int) < (pn : Int) := by omega
          have hyl := HYL.out
          clear hs
          go_wp2_with fail
          go_roundw
          case rel => exact ⟨j + 1, y + s.size, by omega, by go_num, by go_num, HNY, (show _ ≤ _ by omega), by first | rfl | trivial⟩
          case measure => simp [intOf]; omega
        · have hjn : j = pn := by omega
          subst hjn
          have hyz := HY.out
          rw [HPN.out, List.take_length, ← HSU.out] at hyz
          have HY2 : Hid (y = szG (l.take (k + 1))) := hyz
          clear hyz
          go_wp2_with fail
          go_roundw
          case rel => exact ⟨k + 1, y, by omega, by go_num, rfl, HY2, KB, HB⟩
          case measure => simp [intOf]; omega
    · have hkl : k = n := by omega
      subst hkl
      have HE : Hid (Z = z) := by show _ = _; rw [HZ2.out, HZK.out, HN.out, List.take_length]
      go_wp2
      go_ret
      exact ⟨by rw [HE.out]; rfl, HB.out⟩

end Go.Proofs.Ytnpaejknoipicae

namespace Go.Proofs.Ytnpaejknoipicae
open Go.RowKit

theorem gsize_right {g : List Fr} (h : gchk g = 0) : gsize g = szG g := by unfold gsize; rw [if_pos h]

set_option maxHeartbeats 2000000 in
set_option maxRecDepth 100000 in
theorem isFull_any (S : Nat → Prop) (v : Value) (L : List (List Fr)) (w : World) (hv : GrsIn S w v L) (hR : ∀ g ∈ L, gchk g = 0) (hL : L.length ≤ 1000) :
    Calls Try.prog 48 #[v] w fun e w' => e = .returned (.bool (fullB L)) ∧ Below w.heap.size w w' := by
  obtain ⟨ao, c, rfl, _, _, hc⟩ := hv
  obtain ⟨n, hn⟩ : ∃ n, n = L.length := ⟨_, rfl⟩
  have HN : Hid (n = L.length) := hn
  have HC : Hid (∀ k, k < L.length → ∃ b off, ao = some ⟨b, off, none⟩ ∧ b < w.heap.size ∧ S b ∧ ∃ sv, w.cell? ⟨b, off + k, none⟩ = some sv ∧ FrsIn S w sv (L[k]?.getD [])) := hc
  have HR : Hid (∀ g ∈ L, gchk g = 0) := hR
  obtain ⟨FB, hFB⟩ : ∃ b, b = fullB L := ⟨_, rfl⟩
  have HFB : Hid (∀ y, y = sumG L → FB = (decide (5 < n) || (decide (1 < n) && decide (100 < y)))) := fun y hy => by rw [hFB, hy, hn]; rfl
  rw [← hn, ← hFB]
  have hn1 : n ≤ 1000 := by omega
  clear hn hc hR hL hFB
  go_enter Try.func48, Try.ntmps48
  go_wp2
  go_loopw [3, 4] (fun s i wr => ∃ (k y : Nat), k ≤ n ∧ i = .int .i64 k ∧ s = .int .i64 y ∧ Hid (y = sumG (L.take k)) ∧ Hid (y ≤ k * 192) ∧ Hid (Below w.heap.size w wr))
    (fun _ i _ => n - (intOf i).toNat)
  case atStart => exact ⟨0, 0, Nat.zero_le _, rfl, rfl, (show 0 = sumG (L.take 0) from rfl), (show 0 ≤ _ from Nat.zero_le _), Below.refl _ _⟩
  case round =>
    obtain ⟨k, y, hk, rfl, rfl, HY, HYB, HB⟩ := hrel
    by_cases hlt : k < n
    · obtain ⟨b, off, rfl, hb, _, sv, c0, hs⟩ := HC.out k (by rw [← HN.out]; exact hlt)
      have c1 := (HB.out.cell (p := ⟨b, off + k, none⟩) hb).trans c0
      obtain ⟨x, hx⟩ : ∃ x, x = L[k]?.getD [] := ⟨_, rfl⟩
      rw [← hx] at hs
      have hgx : gchk x = 0 := HR.out x (by rw [hx]; exact grAt_mem (by rw [← HN.out]; exact hlt))
      obtain ⟨z, hz⟩ : ∃ z, z = szG x := ⟨_, rfl⟩
      have hz2 : z ≤ 192 := by rw [hz, ← gsize_right hgx]; exact gsize_le x
      have HZ : Hid (y + z = sumG (L.take (k + 1))) := by
        show _ = _
        rw [sumG_take L k (by rw [← HN.out]; exact hlt), ← HY.out, show grAt L k = x from hx.symm, gsize_right hgx, hz]
      obtain ⟨a1, a2, rfl, _, _⟩ := hs.len
      have HCF : Hid (Calls Try.prog 29 #[.agg #[.slice a1 x.length a2]] wr fun e w' => e = .returned (.int .i64 z) ∧ Below wr.heap.size wr w') := by
        show Calls _ _ _ _ _
        rw [hz]; exact sizeOf_any _ _ x wr (hs.below HB.out) hgx
      have hyb := HYB.out
      have hlti : (k : Int) < (n : Int) := by omega
      clear hx hgx hz hs c0
      go_wp2_with fail
      refine HCF.out.mono ?_
      rintro e w2 ⟨rfl, b2⟩
      have B2 : Hid (Below w.heap.size w w2) := HB.out.trans (b2.mono HB.out.size)
      clear b2 HB c1
      go_wp2_with fail
      go_roundw
      case rel => exact ⟨k + 1, y + z, by omega, by go_num, by go_num, HZ.out, (show y + z ≤ _ by omega), B2.out⟩
      case measure => simp [intOf]; omega
    · have hkl : k = n := by omega
      subst hkl
      have hfb := HFB.out y (by rw [HY.out, HN.out, List.take_length])
      have HH : Hid (FB = (decide (5 < k) || (decide (1 < k) && decide (100 < y)))) := hfb
      have BW : Hid (Below w.heap.size w wr) := HB.out
      clear hfb HFB HB HY
      by_cases h5 : 5 < k
      · have hr : FB = true := by rw [HH.out, decide_eq_true h5]; rfl
        have h5i : (5 : Int) < (k : Int) := by omega
        subst hr
        go_wp2
        go_ret
        exact ⟨rfl, BW.out⟩
      · by_cases h1 : 1 < k
        · have hr : FB = decide (100 < y) := by rw [HH.out, decide_eq_false h5, decide_eq_true h1]; rfl
          subst hr
          have h5i : ¬ (5 : Int) < (k : Int) := by omega
          have h1i : (1 : Int) < (k : Int) := by omega
          by_cases hy : 100 < y
          · have hyi : (100 : Int) < (y : Int) := by omega
            go_wp2
            go_ret
            exact ⟨by simp, BW.out⟩
          · have hyi : ¬ (100 : Int) < (y : Int) := by omega
            go_wp2
            go_ret
            exact ⟨by simp, BW.out⟩
        · have hr : FB = false := by rw [HH.out, decide_eq_false h5, decide_eq_false h1]; rfl
          subst hr
          have h5i : ¬ (5 : Int) < (k : Int) := by omega
          have h1i : ¬ (1 : Int) < (k : Int) := by omega
          go_wp2
          go_ret
          exact ⟨rfl, BW.out⟩

set_option maxHeartbeats 2000000 in
set_option maxRecDepth 100000 in
theorem refCheckStore_any (S : Nat → Prop) (first : Int) (gv ov : Value) (L : List (List Fr)) (O : List Fr) (w : World) (hg : GrsIn S w gv L) (ho : FrsIn S w ov O) :
    Calls Try.prog 22 #[.agg #[.int .i64 first, gv, ov]] w fun e w' => e = .returned (.int .i64 (stchk first L O)) ∧ Below w.heap.size w w' := by
  have HG : Hid (GrsIn S w gv L) := hg
  have HO : Hid (FrsIn S w ov O) := ho
  obtain ⟨ao, c, hva, h1, h2, hc⟩ := hg
  obtain ⟨oa, oc, eo, _, hol⟩ := ho.len
  obtain ⟨n, hn⟩ : ∃ n, n = L.length := ⟨_, rfl⟩
  obtain ⟨m, hm⟩ : ∃ m, m = O.length := ⟨_, rfl⟩
  have HN : Hid (n = L.length) := hn
  have HC : Hid (∀ k, k < L.length → ∃ b off, ao = some ⟨b, off, none⟩ ∧ b < w.heap.size ∧ S b ∧ ∃ sv, w.cell? ⟨b, off + k, none⟩ = some sv ∧ FrsIn S w sv (L[k]?.getD [])) := hc
  rw [← hn] at hva h1
  rw [← hm] at eo hol
  obtain ⟨E, hE⟩ : ∃ E, E = stchk first L O := ⟨_, rfl⟩
  have HE : Hid (E = if first < 0 then 3 else if 100000 < first then 3 else if 5 < n then 2 else
    if goN (fun k => gchk (grAt L k)) n 0 = 0 then (if tooB L then 2 else if 0 < m then gchk O else 0) else goN (fun k => gchk (grAt L k)) n 0) := by show _ = _; rw [hE, hn, hm]; rfl
  rw [← hE]
  clear hc hn hm hE ho
  subst hva eo
  by_cases f1 : first < 0
  · have e : E = 3 := by rw [HE.out, if_pos f1]
    have f1d : decide (0 ≤ first) = false := decide_eq_false (by omega)
    rw [e]
    go_enter Try.func22, Try.ntmps22
    go_wp2
    go_ret
    exact ⟨rfl, (Below.refl _ _).alloc (Nat.le_refl _) _⟩
  by_cases f2 : 100000 < first
  · have e : E = 3 := by rw [HE.out, if_neg f1, if_pos f2]
    have f1d : decide (0 ≤ first) = true := decide_eq_true (by omega)
    have f2d : decide (first ≤ 100000) = false := decide_eq_false (by omega)
    rw [e]
    go_enter Try.func22, Try.ntmps22
    go_wp2
    go_ret
    exact ⟨rfl, (Below.refl _ _).alloc (Nat.le_refl _) _⟩
  have f1d : decide (0 ≤ first) = true := decide_eq_true (by omega)
  have f2d : decide (first ≤ 100000) = true := decide_eq_true (by omega)
  by_cases f3 : 5 < n
  · have e : E = 2 := by rw [HE.out, if_neg f1, if_neg f2, if_pos f3]
    have f3i : (5 : Int) < (n : Int) := by omega
    rw [e]
    go_enter Try.func22, Try.ntmps22
    go_wp2
    go_ret
    exact ⟨rfl, (Below.refl _ _).alloc (Nat.le_refl _) _⟩
  have f3i : ¬ (5 : Int) < (n : Int) := by omega
  have HE2 : Hid (E = if goN (fun k => gchk (grAt L k)) n 0 = 0 then (if tooB L then 2 else if 0 < m then gchk O else 0) else goN (fun k => gchk (grAt L k)) n 0) := by show _ = _; rw [HE.out, if_neg f1, if_neg f2, if_neg f3]
  clear HE
  go_enter Try.func22, Try.ntmps22
  go_wp2
  go_loopw [3] (fun i wr => ∃ k : Nat, k ≤ n ∧ i = .int .i64 k ∧ Hid (∀ j, j < k → gchk (grAt L j) = 0) ∧ Hid (Blk wr w.heap.size #[.int .i64 first, .slice ao n c, .slice oa m oc] 36) ∧ Hid (Below w.heap.size w wr))
    (fun i _ => n - (intOf i).toNat)
  case atStart => exact ⟨0, Nat.zero_le _, rfl, (show ∀ j, _ → _ from fun j hj => absurd hj (Nat.not_lt_zero _)), Blk.new _ _ _, (Below.refl _ _).alloc (Nat.le_refl _) _⟩
  case round =>
    obtain ⟨k, hk, rfl, HK, KB, HB⟩ := hrel
    by_cases hlt : k < n
    · obtain ⟨b, off, rfl, hb, _, sv, c0, hs⟩ := HC.out k (by rw [← HN.out]; exact hlt)
      obtain ⟨g, hg⟩ : ∃ g, g = grAt L k := ⟨_, rfl⟩
      rw [show L[k]?.getD [] = g from hg.symm] at hs
      have c1 := (HB.out.cell (p := ⟨b, off + k, none⟩) hb).trans c0
      obtain ⟨sa, sc, esv, _, _⟩ := hs.len
      obtain ⟨gn, hgn⟩ : ∃ gn, gn = g.length := ⟨_, rfl⟩
      rw [← hgn] at esv
      obtain ⟨e, he⟩ : ∃ e, e = gchk g := ⟨_, rfl⟩
      have HS : Hid (∀ U, Below w.heap.size w U → Calls Try.prog 47 #[.agg #[sv]] U fun e' w'' => e' = .returned (.int .i64 e) ∧ Below U.heap.size U w'') := fun U hU => by
        rw [he]; exact refCheckGroup_any S sv g U (hs.below hU)
      have hlti : (k : Int) < (n : Int) := by omega
      have HGE : Hid (e = gchk (grAt L k)) := by show _ = _; rw [he, hg]
      clear hs hg hgn he c0
      subst esv
      obtain ⟨k0, k1, k2⟩ := KB.out.three
      go_wp2_with fail
      have B1 : Hid (Below w.heap.size w wr) := HB
      have K1 := KB
      refine (HS.out _ B1.out).mono ?_
      rintro e' w2 ⟨rfl, hb2⟩
      have B2 : Hid (Below w.heap.size w w2) := B1.out.trans (hb2.mono B1.out.size)
      have K2 : Hid (Blk w2 w.heap.size #[.int .i64 first, .slice (some ⟨b, off, none⟩) n c, .slice oa m oc] 36) := K1.out.below hb2 K1.out.lt
      clear hb2 c1 K1 B1 KB HB k0 k1 k2
      by_cases he0 : e = 0
      · have HK2 : Hid (∀ j, j < k + 1 → gchk (grAt L j) = 0) := fun j hj => by
          by_cases e' : j = k
          · subst e'; rw [← HGE.out]; exact he0
          · exact HK.out j (by omega)
        clear HGE
        subst he0
        go_wp2_with fail
        go_roundw
        case rel => exact ⟨k + 1, by omega, by go_num, HK2, K2, B2⟩
        case measure => simp [intOf]; omega
      · have hE : E = e := by
          have hh := goN_hit (e := fun k => gchk (grAt L k)) n 0 k (Nat.zero_le _) (by omega) (fun j _ hj => HK.out j hj) (by show ¬ gchk (grAt L k) = 0; rw [← HGE.out]; exact he0)
          change goN (fun k => gchk (grAt L k)) n 0 = gchk (grAt L k) at hh
          rw [← HGE.out] at hh
          rw [HE2.out, hh, if_neg he0]
        have HEE : Hid (E = e) := hE
        clear hE
        go_wp2
        go_ret
        exact ⟨by rw [HEE.out]; rfl, B2.out⟩
    · have hkl : k = n := by omega
      subst hkl
      have hz : goN (fun k => gchk (grAt L k)) k 0 = 0 := goN_all _ _ (fun j _ hj => HK.out j (by omega))
      have HE3 : Hid (E = if tooB L then 2 else if 0 < m then gchk O else 0) := by show _ = _; rw [HE2.out, if_pos hz]
      obtain ⟨T, hT⟩ : ∃ T, T = tooB L := ⟨_, rfl⟩
      have HTG : Hid (∀ U, Below w.heap.size w U → Calls Try.prog 48 #[.slice ao k c] U fun e' w'' => e' = .returned (.bool T) ∧ Below U.heap.size U w'') := fun U hU => by
        rw [hT, ← show fullB L = tooB L by unfold fullB; rw [decide_eq_false (by rw [← HN.out]; omega)]; rfl]
        refine isFull_any S _ L U (HG.out.below hU) (fun g hg => ?_) (by rw [← HN.out]; omega)
        obtain ⟨j, hj, e⟩ := List.mem_iff_getElem.1 hg
        have := HK.out j (by rw [HN.out]; exact hj)
        rw [show grAt L j = g by simp [grAt, List.getElem?_eq_getElem hj, e]] at this
        exact this
      have HE4 : Hid (E = if T then 2 else if 0 < m then gchk O else 0) := by show _ = _; rw [hT]; exact HE3.out
      clear hz hT HE3 HE2
      obtain ⟨k0, k1, k2⟩ := KB.out.three
      go_wp2_with fail
      refine (HTG.out _ HB.out).mono ?_
      rintro e' w2 ⟨rfl, hb2⟩
      have B2 : Hid (Below w.heap.size w w2) := HB.out.trans (hb2.mono HB.out.size)
      obtain ⟨j0, j1, j2⟩ := (KB.out.below hb2 KB.out.lt).three
      clear hb2 k0 k1 k2
      cases T
      case true =>
        have HEE : Hid (E = 2) := HE4.out
        go_wp2
        go_ret
        exact ⟨by rw [HEE.out]; rfl, B2.out⟩
      case false =>
        by_cases hm0 : 0 < m
        · have hm0i : (0 : Int) < (m : Int) := by omega
          have HEO : Hid (E = gchk O) := by show _ = _; rw [HE4.out]; simp [hm0]
          go_wp2_with fail
          refine (refCheckGroup_any S _ O _ (HO.out.below B2.out)).mono ?_
          rintro e' w3 ⟨rfl, hb3⟩
          rw [← HEO.out]
          have B3 : Hid (Below w.heap.size w w3) := B2.out.trans (hb3.mono B2.out.size)
          clear hb3 j0 j1 j2
          go_wp2
          go_ret
          exact ⟨rfl, B3.out⟩
        · have hm0i : ¬ (0 : Int) < (m : Int) := by omega
          have HEE : Hid (E = 0) := by show _ = _; rw [HE4.out]; simp [hm0]
          go_wp2
          go_ret
          exact ⟨by rw [HEE.out]; rfl, B2.out⟩

end Go.Proofs.Ytnpaejknoipicae

namespace Go.Proofs.Ytnpaejknoipicae
open Go.RowKit

theorem groups_copyS {S : Nat → Prop} {w : World} {u : Value} {L : List (List Fr)} (hS : ∀ g, S g → g < w.heap.size) (hu : GrsIn S w u L) (hb : L.length ≤ 1000) :
    ∃ v' w', (Builtin.append_ #[31, 31] 31 #[.slice (some ⟨w.heap.size, 0, none⟩) 0 0, u]).run Try.prog (w.alloc (.cells #[] 34)) = .ok v' w' ∧ OwnGrs w.heap.size S w' v' L ∧ Below w.heap.size w w' := by
  obtain ⟨qs, q1, q2, q3⟩ := (hu.alloc (.cells #[] 34)).sl
  have h0 : OwnGrs w.heap.size S (w.alloc (.cells #[] 34)) (.slice (some ⟨w.heap.size, 0, none⟩) 0 0) [] := ⟨[], rfl, World.ownsRow_lit (base := w.heap.size) (e := 34) (size := 1) w #[] 0 (Nat.le_refl _) (by unfold maxLen; omega) rfl, fun _ hp => absurd hp List.not_mem_nil⟩
  obtain ⟨v', w', r, o, g, _⟩ := groups_app h0 q1 q2 q3 (fun g hg e => by have := hS g hg; simp [Value.ownBlock] at e; omega) (by simpa using hb) (by simp)
  exact ⟨v', w', r, by simpa using o, ((Below.refl _ w).alloc (Nat.le_refl _) _).grown g (by simp) (fun j hj => by simp [Value.ownBlock] at hj; omega)⟩
theorem groups_snocS {base : Nat} {S : Nat → Prop} {w : World} {v ov : Value} {L : List (List Fr)} {o : List Fr} (hS : ∀ g, S g → g < base) (hv : OwnGrs base S w v L) (ho : FrsIn S w ov o) (hb : L.length ≤ 999) (hbase : base ≤ w.heap.size) :
    ∃ v' w', (Builtin.append_ #[31, 31] 31 #[v, .slice (some ⟨w.heap.size, 0, none⟩) 1 1]).run Try.prog (w.alloc (.cells #[ov] 34)) = .ok v' w' ∧ OwnGrs base S w' v' (L ++ [o]) ∧ Below base w w' := by
  have hS' : ∀ g, S g → some g ≠ v.ownBlock := fun g hg e => by have := (hv.lt g e.symm).1; have := hS g hg; omega
  obtain ⟨v', w', r, o', g, _⟩ := groups_app (qs := [(o, ov)]) (hv.below ((Below.refl _ w).alloc (Nat.le_refl _) (.cells #[ov] 34))) rfl (Sl.new w #[ov] 34 1 1 1 rfl) (fun p hp => by simp at hp; subst hp; exact ho.alloc _) hS' (by simpa using hb) (by simp; omega)
  exact ⟨v', w', r, o', ((Below.refl base w).alloc hbase _).grown g (by simp; omega) (fun j hj => (hv.lt j hj).1)⟩

set_option maxHeartbeats 2000000 in
set_option maxRecDepth 100000 in
theorem allOf_in (S : Nat → Prop) (first : Int) (gv ov : Value) (L : List (List Fr)) (O : List Fr) (w : World) (hg : GrsIn S w gv L) (ho : FrsIn S w ov O) (hL : L.length ≤ 999) :
    Calls Try.prog 16 #[.agg #[.int .i64 first, gv, ov]] w fun e w' => ∃ v', e = .returned v' ∧ GrsIn (fun g => S g ∨ w.heap.size ≤ g) w' v' (allG L O) ∧ Below w.heap.size w w' := by
  obtain ⟨ga, gc, eg, _, _⟩ := hg.len
  obtain ⟨oa, oc, eo, _, _⟩ := ho.len
  obtain ⟨ln, hln⟩ : ∃ n, n = L.length := ⟨_, rfl⟩
  obtain ⟨lo, hlo⟩ : ∃ n, n = O.length := ⟨_, rfl⟩
  rw [← hln] at eg
  rw [← hlo] at eo
  obtain ⟨W0, hW0⟩ : ∃ W0, W0 = w.alloc (.cells #[.int .i64 first, gv, ov] 36) := ⟨_, rfl⟩
  have B0 : Below w.heap.size w W0 := by rw [hW0]; exact (Below.refl _ _).alloc (Nat.le_refl _) _
  have K0 : Blk W0 w.heap.size #[.int .i64 first, gv, ov] 36 := Blk.newE hW0
  have hg0 : GrsIn (fun g => S g ∧ g < W0.heap.size) W0 gv L := (hg.below B0).mono fun g h h' => ⟨h', h⟩
  have ho0 : FrsIn (fun g => S g ∧ g < W0.heap.size) W0 ov O := (ho.below B0).mono fun g h h' => ⟨h', h⟩
  obtain ⟨v3, w3, r3, o3, b3⟩ := groups_copyS (fun g h => h.2) hg0 (by omega)
  have ho3 := ho0.below b3
  have K3 : Hid (Blk w3 w.heap.size #[.int .i64 first, gv, ov] 36) := K0.below b3 K0.lt
  have B3 : Hid (Below w.heap.size w w3) := B0.trans (b3.mono B0.size)
  obtain ⟨v5, w5, r5, o5, b5⟩ := groups_snocS (fun g h => h.2) o3 ho3 hL b3.size
  have HR3 : Hid (GrsIn (fun g => S g ∨ w.heap.size ≤ g) w3 v3 L) := o3.grsIn (fun _ _ h => .inl h.1) (fun g h => .inr (Nat.le_trans B0.size (o3.lt g h).1))
  have HR5 : Hid (GrsIn (fun g => S g ∨ w.heap.size ≤ g) w5 v5 (L ++ [O])) := o5.grsIn (fun _ _ h => .inl h.1) (fun g h => .inr (Nat.le_trans B0.size (o5.lt g h).1))
  have B5 : Hid (Below w.heap.size w w5) := B3.out.trans (b5.mono B0.size)
  have HA : Hid (allG L O = if 0 < lo then L ++ [O] else L) := by show _ = _; rw [hlo]; rfl
  have r3' : (Builtin.append_ #[31, 31] 31 #[.slice (some ⟨w.heap.size + 1, 0, none⟩) 0 0, gv]).run Try.prog (W0.alloc (.cells #[] 34)) = .ok v3 w3 := by
    rw [show w.heap.size + 1 = W0.heap.size by rw [hW0]; simp]; exact r3
  subst hW0
  clear hg ho hg0 ho0 o3 o5 b3 b5 ho3 hL hln hlo K0 B0 r3
  subst eg eo
  obtain ⟨k0, k1, k2⟩ := K3.out.three
  by_cases hl : 0 < lo
  · have hli : (0 : Int) < (lo : Int) := by omega
    have HA2 : Hid (allG L O = L ++ [O]) := by show _ = _; rw [HA.out, if_pos hl]
    go_enter Try.func16, Try.ntmps16
    go_wp2_with (at_builtin; first | refine wpList_append_run rfl (.tmp 4) (.tmp 6) 31 31 rfl _ _ rfl rfl r3' ?_ | refine wpList_append_run rfl (.tmp 13) (.tmp 16) 31 31 rfl _ _ rfl rfl r5 ?_)
    go_ret
    exact ⟨v5, rfl, by rw [HA2.out]; exact HR5.out, B5.out⟩
  · have hli : ¬ (0 : Int) < (lo : Int) := by omega
    have HA2 : Hid (allG L O = L) := by show _ = _; rw [HA.out, if_neg hl]
    go_enter Try.func16, Try.ntmps16
    go_wp2_with (at_builtin; refine wpList_append_run rfl (.tmp 4) (.tmp 6) 31 31 rfl _ _ rfl rfl r3' ?_)
    go_ret
    exact ⟨v3, rfl, by rw [HA2.out]; exact HR3.out, B3.out⟩

theorem allOf_any (first : Int) (gv ov : Value) (L : List (List Fr)) (O : List Fr) (w : World) (hg : GrsIn (fun _ => True) w gv L) (ho : FrsIn (fun _ => True) w ov O) (hL : L.length ≤ 999) :
    Calls Try.prog 16 #[.agg #[.int .i64 first, gv, ov]] w fun e w' => ∃ v', e = .returned v' ∧ GrsIn (fun _ => True) w' v' (allG L O) ∧ Below w.heap.size w w' := by
  refine (allOf_in (fun _ => True) first gv ov L O w hg ho hL).mono ?_
  rintro e w' ⟨v', rfl, h1, h2⟩
  exact ⟨v', rfl, h1.mono (fun _ _ _ => trivial), h2⟩

theorem GrsIn.firstTime {S : Nat → Prop} {w : World} {ao : Option Addr} {n c k : Nat} {L : List (List Fr)} (h : GrsIn S w (.slice ao n c) L) (hk : k < L.length) (h0 : 0 < (grAt L k).length) :
    ∃ b off b2 off2 sn sc, ao = some ⟨b, off, none⟩ ∧ w.cell? ⟨b, off + k, none⟩ = some (.slice (some ⟨b2, off2, none⟩) sn sc) ∧ 0 < sn ∧ w.cell? ⟨b2, off2, none⟩ = some (.int .i64 (frAt (grAt L k) 0).time) := by
  obtain ⟨ao', c', e, _, _, hc⟩ := h
  injection e with e1 e2 e3
  subst e1
  obtain ⟨b, off, e4, _, _, sv, c0, hs⟩ := hc k hk
  obtain ⟨sa, sc, es, _, _⟩ := hs.len
  subst es
  obtain ⟨b2, off2, e5, d0, _⟩ := hs.first h0
  subst e5
  exact ⟨b, off, b2, off2, _, sc, e4, c0, h0, d0⟩

set_option maxHeartbeats 4000000 in
set_option maxRecDepth 100000 in
theorem seekOf_any (first : Int) (gv ov : Value) (L : List (List Fr)) (O : List Fr) (t : Int) (w : World) (hg : GrsIn (fun _ => True) w gv L) (ho : FrsIn (fun _ => True) w ov O) (hr : stchk first L O = 0) :
    Calls Try.prog 24 #[.agg #[.int .i64 first, gv, ov], .int .i64 t] w fun e w' => e = .returned (.tuple #[.int .i64 (if (allG L O).length = 0 then 0 else first + seekI (allG L O) t ((allG L O).length - 1)), .bool (decide (0 < (allG L O).length))]) ∧ Below w.heap.size w w' := by
  obtain ⟨h1, h2, h3, _⟩ := stchk_zero.1 hr
  obtain ⟨A, hA⟩ : ∃ A, A = allG L O := ⟨_, rfl⟩
  have hAl : A.length ≤ 6 := by rw [hA]; exact allG_len L O h3
  have HAR : Hid (∀ k, k < A.length → 0 < (grAt A k).length) := fun k hk => (gchk_first (by rw [hA]; exact allG_right hr _ (grAt_mem (by rw [← hA]; exact hk)))).1
  obtain ⟨q, hq⟩ : ∃ q, q = A.length := ⟨_, rfl⟩
  have HQ : Hid (q = A.length) := hq
  have HALL : Hid (∀ U, Below w.heap.size w U → Calls Try.prog 16 #[.agg #[.int .i64 first, gv, ov]] U fun e w' => ∃ a c, e = .returned (.slice a q c) ∧ Hid (GrsIn (fun _ => True) w' (.slice a q c) A) ∧ Below U.heap.size U w') := fun U hU => by
    refine (allOf_any first gv ov L O U (hg.below hU) (ho.below hU) (by omega)).mono ?_
    rintro e w' ⟨v', rfl, h4, h5⟩
    rw [← hA] at h4
    obtain ⟨a, c, e, _, _⟩ := h4.len
    rw [← hq] at e
    subst e
    exact ⟨a, c, rfl, h4, h5⟩
  obtain ⟨ga, gc, eg, _, _⟩ := hg.len
  obtain ⟨oa, oc, eo, _, _⟩ := ho.len
  obtain ⟨ln, hln⟩ : ∃ n, n = L.length := ⟨_, rfl⟩
  obtain ⟨lo, hlo⟩ : ∃ n, n = O.length := ⟨_, rfl⟩
  rw [← hln] at eg
  rw [← hlo] at eo
  rw [← hA, ← hq]
  rw [← hq] at hAl
  obtain ⟨RN, hRN⟩ : ∃ R : Int, R = if q = 0 then 0 else first + seekI A t (q - 1) := ⟨_, rfl⟩
  obtain ⟨RB, hRB⟩ : ∃ R : Bool, R = decide (0 < q) := ⟨_, rfl⟩
  have HRN : Hid (q = 0 → RN = 0 ∧ RB = false) := fun h => ⟨by rw [hRN, if_pos h], by rw [hRB, h]; rfl⟩
  have HRY : Hid (∀ i : Nat, ¬ q = 0 → seekI A t (q - 1) = i → RN = first + i ∧ RB = true) := fun i h h' => ⟨by rw [hRN, if_neg h, h'], by rw [hRB]; exact decide_eq_true (by omega)⟩
  rw [← hRN, ← hRB]
  clear hg ho hr h3 hA hq hln hlo hRN hRB
  subst eg eo
  go_enter Try.func24, Try.ntmps24
  go_wp2_with fail
  obtain ⟨W0, hW0⟩ : ∃ W0, W0 = w.alloc (.cells #[.int .i64 first, .slice ga ln gc, .slice oa lo oc] 36) := ⟨_, rfl⟩
  have HS0 := (((Blk.newE hW0).stay).and ((below_stay0 w).allocE hW0).out).hid
  rw [← hW0]
  clear hW0
  refine (HALL.out _ HS0.out.now.2).mono ?_
  rintro e w1 ⟨va, vc, rfl, GA, b1⟩
  have HS1 := Stay.go HS0 b1
  clear b1 HS0
  obtain ⟨k0, k1, k2⟩ := HS1.out.now.1.three
  by_cases hq0 : q = 0
  · obtain ⟨rfl, rfl⟩ := HRN.out hq0
    subst hq0
    go_wp2_with fail
    go_loopw [7] (fun s wr => s = .int .i64 (-1) ∧ w1 = wr) (fun _ _ => 0)
    case atStart => exact ⟨by simp, rfl⟩
    case round =>
      obtain ⟨rfl, rfl⟩ := hrel
      go_wp2_with fail
      exact bodyPost_ret (v := .tuple #[.int .i64 0, .bool false]) (by simp [results, Try.results24, go_sem]) rfl ⟨rfl, HS1.out.now.2⟩
  obtain ⟨q1, hq1⟩ : ∃ q1, q = q1 + 1 := ⟨q - 1, by omega⟩
  have HQ1 : Hid (q1 + 1 = A.length) := by show _ = _; rw [← hq1]; exact HQ.out
  have HRES : Hid (∀ i : Nat, seekI A t q1 = i → RN = first + i ∧ RB = true) := fun i hi => HRY.out i hq0 (by rw [show q - 1 = q1 by omega, hi])
  have hqi : (q : Int) - 1 = (q1 : Int) := by omega
  clear hq1
  go_wp2_with fail
  go_loopw [7] (fun s wr => ∃ i : Nat, i ≤ q1 ∧ s = .int .i64 i ∧ Hid (seekI A t q1 = seekI A t i) ∧ w1 = wr) (fun s _ => (intOf s).toNat)
  case atStart => exact ⟨q1, Nat.le_refl _, by go_num, (show seekI A t q1 = seekI A t q1 from rfl), rfl⟩
  case round =>
    obtain ⟨i, hi, rfl, HI, rfl⟩ := hrel
    obtain ⟨b, off, b2, off2, sn, sc, e1, c0, c1, c2⟩ := GA.out.firstTime (k := i) (by rw [← HQ1.out]; omega) (HAR.out i (by rw [← HQ1.out]; omega))
    subst e1
    obtain ⟨T, hT⟩ : ∃ T, T = (frAt (grAt A i) 0).time := ⟨_, rfl⟩
    have HT : Hid (T = (frAt (grAt A i) 0).time) := hT
    rw [← hT] at c2
    clear hT
    have hiq : (i : Int) < (q : Int) := by omega
    have c1i : (0 : Int) < (sn : Int) := by omega
    by_cases hle : T ≤ t
    · have HR : Hid (seekI A t i = i) := by
        show _ = _
        cases i with
        | zero => rfl
        | succ i => exact seekI_hit rfl (by rw [← HT.out]; exact hle)
      obtain ⟨rfl, rfl⟩ := HRES.out i (HI.out.trans HR.out)
      go_wp2_with fail
      go_loopw [8] (fun s wr => s = .int .i64 i ∧ w1 = wr) (fun _ _ => 0)
      case atStart => exact ⟨rfl, rfl⟩
      case round =>
        obtain ⟨rfl, rfl⟩ := hrel
        go_wp2_with fail
        exact bodyPost_ret (v := .tuple #[.int .i64 (first + i), .bool true]) (by simp [results, Try.results24, go_sem]) rfl ⟨rfl, HS1.out.now.2⟩
    · by_cases hi0 : i = 0
      · have HF : Hid (RN = first + ((0 : Nat) : Int) ∧ RB = true) := HRES.out 0 (by rw [HI.out, hi0]; rfl)
        have HI0 : Hid (i = 0) := hi0
        have hz : ((i : Int) == 0) = true := by simpa using hi0
        have hneg : ¬ (0 : Int) ≤ (i : Int) - 1 := by omega
        clear hi0
        go_wp2_with fail
        go_loopw [8] (fun s wr => (s = .int .i64 i ∨ s = .int .i64 ((i : Int) - 1)) ∧ w1 = wr) (fun s _ => (intOf s + 1).toNat)
        case atStart => exact ⟨.inl (by simp), rfl⟩
        case round =>
          obtain ⟨h, rfl⟩ := hrel
          rcases h with rfl | rfl
          · go_wp2_with fail
            go_roundw
            case rel => exact ⟨.inr (by simp), by first | rfl | trivial⟩
            case measure => simp [intOf]
          · go_wp2_with fail
            exact bodyPost_ret (v := .tuple #[.int .i64 first, .bool true]) (by simp [results, Try.results24, go_sem]) rfl ⟨by rw [HF.out.1, HF.out.2]; simp, HS1.out.now.2⟩
      · obtain ⟨i1, hi1⟩ : ∃ i1, i = i1 + 1 := ⟨i - 1, by omega⟩
        have HR : Hid (seekI A t q1 = seekI A t i1) := by show _ = _; rw [HI.out]; exact seekI_miss hi1 (by rw [← HT.out]; exact hle)
        have hz : ((i : Int) == 0) = false := by simpa using hi0
        have hii : (i : Int) - 1 = (i1 : Int) := by omega
        have hl1 : i1 < i := by omega
        clear hi0 hi1
        go_wp2_with fail
        go_roundw
        case rel => exact ⟨i1, by omega, by go_num, HR.out, by first | rfl | trivial⟩
        case measure => simp [intOf]; omega

end Go.Proofs.Ytnpaejknoipicae

namespace Go.Proofs.Ytnpaejknoipicae
open Go.RowKit

set_option maxHeartbeats 2000000 in
theorem sizeOf_open (S : Nat → Prop) (v : Value) (l : List Fr) (w : World) (hv : FrsIn S w v l) (hG : l = [] ∨ gchk l = 0) :
    Calls Try.prog 29 #[.agg #[v]] w fun e w' => e = .returned (.int .i64 (szG l)) ∧ Below w.heap.size w w' := by
  rcases hG with rfl | hG
  · obtain ⟨ao, c, hva, h1, h2, hc⟩ := hv
    rw [List.length_nil] at hva
    subst hva
    go_enter Try.func29, Try.ntmps29
    go_wp2
    go_rounds 1
    go_ret
    exact ⟨rfl, by go_grown⟩
  · exact sizeOf_any S v l w hv hG

end Go.Proofs.Ytnpaejknoipicae

namespace Go.Proofs.Ytnpaejknoipicae
open Go.RowKit Go.Sort

set_option maxHeartbeats 16000000 in
set_option maxRecDepth 100000 in
theorem cursorKey_any (first : Int) (gv ov : Value) (L : List (List Fr)) (O : List Fr) (m g j upto : Int) (f : Fr) (pv : Value) (w : World) (hg : GrsIn (fun _ => True) w gv L) (ho : FrsIn (fun _ => True) w ov O) (hp : StrsIn (fun _ => True) w pv f.parts) :
    Calls Try.prog 8 #[.agg #[.int .i64 first, gv, ov], .agg #[.int .i64 m, .int .i64 g, .int .i64 j], .int .i64 upto, .agg #[.int .i64 f.time, .bool f.key, pv]] w fun e w' => e = .returned (.bool true) ∧ Below w.heap.size w w' := by
  obtain ⟨ga, gc, eg, _, _⟩ := hg.len
  obtain ⟨oa, oc, eo, _, _⟩ := ho.len
  obtain ⟨pa, pc, ep⟩ := hp.1.len
  obtain ⟨ln, hln⟩ : ∃ n, n = L.length := ⟨_, rfl⟩
  obtain ⟨lo, hlo⟩ : ∃ n, n = O.length := ⟨_, rfl⟩
  obtain ⟨pn, hpn⟩ : ∃ n, n = f.parts.length := ⟨_, rfl⟩
  rw [← hln] at eg
  rw [← hlo] at eo
  rw [← hpn] at ep
  obtain ⟨ft, hft⟩ : ∃ t, t = f.time := ⟨_, rfl⟩
  obtain ⟨fk, hfk⟩ : ∃ t, t = f.key := ⟨_, rfl⟩
  obtain ⟨E, hE⟩ : ∃ E, E = nxE first L O m g j upto := ⟨_, rfl⟩
  obtain ⟨K, hK⟩ : ∃ E, E = nxK first L O m g j upto := ⟨_, rfl⟩
  obtain ⟨T, hT⟩ : ∃ E, E = nxT first L O m g j upto := ⟨_, rfl⟩
  obtain ⟨X, hX⟩ : ∃ E, E = nxX first L O m g j upto := ⟨_, rfl⟩
  obtain ⟨dM, hdM⟩ : ∃ E, E = nxM first L O m g j upto := ⟨_, rfl⟩
  obtain ⟨dG, hdG⟩ : ∃ E, E = nxG first L O m g j upto := ⟨_, rfl⟩
  obtain ⟨dF, hdF⟩ : ∃ E, E = nxF first L O m g j upto := ⟨_, rfl⟩
  obtain ⟨xt, hxt⟩ : ∃ E, E = X.time := ⟨_, rfl⟩
  obtain ⟨xk, hxk⟩ : ∃ E, E = X.key := ⟨_, rfl⟩
  obtain ⟨xn, hxn⟩ : ∃ E, E = X.parts.length := ⟨_, rfl⟩
  obtain ⟨A, hA⟩ : ∃ A, A = allG L O := ⟨_, rfl⟩
  obtain ⟨q, hq⟩ : ∃ n, n = A.length := ⟨_, rfl⟩
  obtain ⟨E2, hE2⟩ : ∃ E, E = addsE first L O f := ⟨_, rfl⟩
  obtain ⟨F2, hF2⟩ : ∃ E, E = addsF first L O f := ⟨_, rfl⟩
  obtain ⟨L2, hL2⟩ : ∃ E, E = addsL first L O f := ⟨_, rfl⟩
  obtain ⟨O2, hO2⟩ : ∃ E, E = addsO first L O f := ⟨_, rfl⟩
  obtain ⟨B2, hB2⟩ : ∃ E, E = addsB first L O f := ⟨_, rfl⟩
  obtain ⟨nA, hnA⟩ : ∃ n, n = L2.length := ⟨_, rfl⟩
  obtain ⟨nO, hnO⟩ : ∃ n, n = O2.length := ⟨_, rfl⟩
  have HNX : Hid (∀ U : World, Below w.heap.size w U → Calls Try.prog 17 #[.agg #[.int .i64 first, gv, ov], .agg #[.int .i64 m, .int .i64 g, .int .i64 j], .int .i64 upto] U fun e w' => ∃ xa xc, e = .returned (.tuple #[.agg #[.int .i64 dM, .int .i64 dG, .int .i64 dF], .agg #[.int .i64 xt, .bool xk, .slice xa xn xc], .bool K, .bool T, .int .i64 E]) ∧ Below U.heap.size U w') := fun U hU => by
    refine (next_any first gv ov L O m g j upto U (hg.below hU) (ho.below hU)).mono ?_
    rintro e w' ⟨pv, rfl, hs, hb⟩
    rw [← hX] at hs
    obtain ⟨xa, xc, ex⟩ := hs.1.len
    refine ⟨xa, xc, ?_, hb⟩
    rw [hxt, hxk, hxn, hdM, hdG, hdF, hK, hT, hE, ← hX, ex]
  have HBAD : Hid (¬ E = 0 → dM = 0 ∧ dG = 0 ∧ dF = 0 ∧ K = false ∧ T = false) := fun h => by
    rw [hE] at h
    obtain ⟨r1, r2, r3, _, r5, r6⟩ := nx_bad h
    rw [hdM, hdG, hdF, hK, hT]; exact ⟨r1, r2, r3, r5, r6⟩
  have HNONE : Hid (E = 0 → K = false → dM = m ∧ dG = g ∧ dF = j ∧ T = false ∧ xn = 0 ∧ nxt m A (g - first) j upto = none) := fun h hk => by
    rw [hE] at h
    cases hn : nxt m (allG L O) (g - first) j upto with
    | none =>
      obtain ⟨r1, r2, r3, r4, r5, r6⟩ := nx_none h hn
      rw [hdM, hdG, hdF, hT, hxn, hX, r4, hA]; exact ⟨r1, r2, r3, r6, rfl, hn⟩
    | some p =>
      obtain ⟨k, i, t⟩ := p
      rw [hK, (nx_some h hn).2.2.2.2.1] at hk; cases hk
  have HSOME : Hid (E = 0 → K = true → ¬ m = 2 ∧ (T = true → xk = true) ∧ 1 ≤ dF ∧ xk = (dF == 1) ∧ curE dM dG dF = 0 ∧ (m = 3 → xt ≤ upto)) := fun h hk => by
    rw [hE] at h
    cases hn : nxt m (allG L O) (g - first) j upto with
    | none => rw [hK, (nx_none h hn).2.2.2.2.1] at hk; cases hk
    | some p =>
      obtain ⟨k, i, t⟩ := p
      obtain ⟨r1, r2, r3, r4, r5, r6, r7, r8⟩ := nx_some h hn
      obtain ⟨s1, s2, s3⟩ := nxt_some hn
      obtain ⟨h1, h2, h3, h4⟩ := nxE_zero.1 h
      obtain ⟨c1, c2, c3, c4, c5, c6⟩ := curE_zero.1 h2
      obtain ⟨q1, q2, q3, _⟩ := stchk_zero.1 h1
      have h6 := allG_len L O q3
      have hr := allG_right h1 _ (grAt_mem r7)
      have hkey := gchk_key hr r8
      obtain ⟨g1, g2, _⟩ := gchk_first hr
      have hxk' : xk = decide (i = 0) := by rw [hxk, hX, r4, hkey]
      rw [hT, r6, hdF, r3, hdM, r1, hdG, r2, hxt, hX, r4, hxk']
      refine ⟨s1, fun ht => decide_eq_true (s2 ht), by omega, ?_, curE_zero.2 ⟨c1, c2, by omega, by omega, by omega, by omega⟩, s3⟩
      rw [Bool.eq_iff_iff]; simp; omega
  have HCK : Hid (∀ U : World, Calls Try.prog 26 #[.agg #[.int .i64 dM, .int .i64 dG, .int .i64 dF]] U fun e w' => e = .returned (.int .i64 (curE dM dG dF)) ∧ Below U.heap.size U w') := fun U => curCheck_any dM dG dF U
  have HADD : Hid (∀ U, Below w.heap.size w U → Calls Try.prog 19 #[.agg #[.int .i64 first, gv, ov], .agg #[.int .i64 ft, .bool fk, pv]] U fun e w' => ∃ va vc qa qc, e = .returned (.tuple #[.agg #[.int .i64 F2, .slice va nA vc, .slice qa nO qc], .bool B2, .int .i64 E2]) ∧ Hid (GrsIn (fun _ => True) w' (.slice va nA vc) L2) ∧ Hid (FrsIn (fun _ => True) w' (.slice qa nO qc) O2) ∧ Below U.heap.size U w') := fun U hU => by
    rw [hft, hfk]
    refine (storeAdd_any first gv ov pv L O f U (hg.below hU) (ho.below hU) (hp.below hU)).mono ?_
    rintro e w' ⟨gv', ov', rfl, h1, h2, h3⟩
    rw [← hL2] at h1
    rw [← hO2] at h2
    obtain ⟨va, vc, ev, _, _⟩ := h1.len
    obtain ⟨qa, qc, eq, _, _⟩ := h2.len
    rw [← hnA] at ev
    rw [← hnO] at eq
    subst ev eq
    rw [← hE2, ← hF2, ← hB2]
    exact ⟨va, vc, qa, qc, rfl, h1, h2, h3⟩
  have HALL : Hid (E = 0 → ∀ W : World, Below w.heap.size w W → Calls Try.prog 16 #[.agg #[.int .i64 first, gv, ov]] W fun e w' => ∃ a c, e = .returned (.slice a q c) ∧ Below W.heap.size W w') := fun h0 W hW => by
    rw [hE] at h0
    obtain ⟨_, _, h3, _⟩ := stchk_zero.1 (nxE_zero.1 h0).1
    refine (allOf_any first gv ov L O W (hg.below hW) (ho.below hW) (by omega)).mono ?_
    rintro e w' ⟨v', rfl, h4, h5⟩
    rw [← hA] at h4
    obtain ⟨a, c, e, _, _⟩ := h4.len
    rw [← hq] at e
    subst e
    exact ⟨a, c, rfl, h5⟩
  have HN3 : Hid (E = 0 → K = false → m = 1 → E2 = 0 → ¬ q = 0 → ∃ (K3 T3 : Bool) (m3 g3 f3 : Int) (Y : Fr), (K3 = true → Y = f ∧ (fk = true ∨ ¬ nO = lo)) ∧ (K3 = false → fk = false ∧ O2 = O) ∧ ∀ (U : World) (g2 o2 : Value), GrsIn (fun _ => True) U g2 L2 → FrsIn (fun _ => True) U o2 O2 → Calls Try.prog 17 #[.agg #[.int .i64 F2, g2, o2], .agg #[.int .i64 m, .int .i64 g, .int .i64 j], .int .i64 upto] U fun e w' => ∃ xa xc, e = .returned (.tuple #[.agg #[.int .i64 m3, .int .i64 g3, .int .i64 f3], .agg #[.int .i64 Y.time, .bool Y.key, .slice xa Y.parts.length xc], .bool K3, .bool T3, .int .i64 0]) ∧ Hid (StrsIn (fun _ => True) w' (.slice xa Y.parts.length xc) Y.parts) ∧ Below U.heap.size U w') := fun h0 hk hm h2 hq0 => by
    obtain ⟨_, _, _, _, _, hnone⟩ := HNONE.out h0 hk
    rw [hE] at h0
    obtain ⟨z1, z2, z3, z4⟩ := nxE_zero.1 h0
    rw [hE2] at h2
    subst hm
    obtain ⟨n, hn1, hn2, hn3⟩ := nxt_live_none hnone (by rw [← hq]; exact hq0)
    have hr := adds_right h2
    rw [← hF2, ← hL2, ← hO2] at hr
    have hz : nxE F2 L2 O2 1 g j upto = 0 := nxE_zero.2 ⟨hr, z2, z3, z4⟩
    have hh := adds_live h2 (n := n) (by rw [← hA]; exact hn2) upto
    rw [← hF2, ← hL2, ← hO2, ← hA, ← hn3, show first + (n : Int) = g by omega, ← hnO, ← hlo] at hh
    refine ⟨nxK F2 L2 O2 1 g j upto, nxT F2 L2 O2 1 g j upto, nxM F2 L2 O2 1 g j upto, nxG F2 L2 O2 1 g j upto, nxF F2 L2 O2 1 g j upto, nxX F2 L2 O2 1 g j upto, ?_⟩
    refine ⟨fun hk => ?_, fun hk => ?_, fun U g2 o2 hg2 ho2 => ?_⟩
    · rcases hh with ⟨hx, k, i, hn, hf⟩ | ⟨_, _, hn⟩
      · rw [(nx_some hz hn).2.2.2.1, hf, hfk]; exact ⟨rfl, hx⟩
      · rw [(nx_none hz hn).2.2.2.2.1] at hk; cases hk
    · rcases hh with ⟨_, k, i, hn, hf⟩ | ⟨hf, ho', hn⟩
      · rw [(nx_some hz hn).2.2.2.2.1] at hk; cases hk
      · rw [hfk, hf]; exact ⟨rfl, ho'⟩
    · refine (next_any F2 g2 o2 L2 O2 1 g j upto U hg2 ho2).mono ?_
      rintro e w' ⟨pv, rfl, hs, hb⟩
      obtain ⟨xa, xc, ex⟩ := hs.1.len
      refine ⟨xa, xc, ?_, by rw [← ex]; exact hs.mono (fun _ _ _ => trivial), hb⟩
      rw [hz, ex]
  have HRO : Hid (E = 0 → O = [] ∨ gchk O = 0) := fun h0 => by
    rw [hE] at h0
    exact (stchk_zero.1 (nxE_zero.1 h0).1).2.2.2.2.2
  have HRO2 : Hid (E2 = 0 → O2 = [] ∨ gchk O2 = 0) := fun h2 => by
    rw [hE2] at h2
    rw [hO2]
    exact (stchk_zero.1 (adds_right h2)).2.2.2.2.2
  have HS : Hid (Stay w (fun U => StrsIn (fun _ => True) U pv f.parts ∧ FrsIn (fun _ => True) U ov O ∧ Below w.heap.size w U)) := hp.stay.and (ho.stay.and (below_stay0 w))
  have HPL : Hid (pn = f.parts.length ∧ ft = f.time ∧ fk = f.key ∧ nO = O2.length ∧ lo = O.length) := ⟨hpn, hft, hfk, hnO, hlo⟩
  rw [← hft, ← hfk]
  clear hg ho hp hE hF2 hL2 hO2 hB2 hnA hnO hft hfk hln hlo hpn hA hq hE2 hK hT hX hdM hdG hdF hxt hxk hxn
  subst eg eo ep
  go_enter Try.func8, Try.ntmps8
  go_wp2_with fail
  obtain ⟨W0, hW0⟩ : ∃ W0, W0 = ((w.alloc (.cells #[.int .i64 first, .slice ga ln gc, .slice oa lo oc] 36)).alloc (.cells #[.int .i64 m, .int .i64 g, .int .i64 j] 41)).alloc (.cells #[.int .i64 ft, .bool fk, .slice pa pn pc] 39) := ⟨_, rfl⟩
  have HS0 : Hid (Stay W0 (fun U => (Blk U w.heap.size #[.int .i64 first, .slice ga ln gc, .slice oa lo oc] 36 ∧ Blk U (w.heap.size + 1) #[.int .i64 m, .int .i64 g, .int .i64 j] 41 ∧ Blk U (w.heap.size + 1 + 1) #[.int .i64 ft, .bool fk, .slice pa pn pc] 39) ∧ StrsIn (fun _ => True) U (.slice pa pn pc) f.parts ∧ FrsIn (fun _ => True) U (.slice oa lo oc) O ∧ Below w.heap.size w U)) := by
    rw [hW0]
    have h2 := Blk.new (w.alloc (.cells #[.int .i64 first, .slice ga ln gc, .slice oa lo oc] 36)) #[.int .i64 m, .int .i64 g, .int .i64 j] 41
    have h3 := Blk.new ((w.alloc (.cells #[.int .i64 first, .slice ga ln gc, .slice oa lo oc] 36)).alloc (.cells #[.int .i64 m, .int .i64 g, .int .i64 j] 41)) #[.int .i64 ft, .bool fk, .slice pa pn pc] 39
    rw [World.size_alloc] at h2
    rw [World.size_alloc, World.size_alloc] at h3
    exact (((((Blk.new _ _ _).alloc _).alloc _).stay).and ((h2.alloc _).stay.and h3.stay)).and (((HS.out.alloc _).alloc _).alloc _)
  rw [← hW0]
  clear hW0 HS
  refine (HNX.out _ HS0.out.now.2.2.2).mono ?_
  rintro e w1 ⟨xa, xc, rfl, b1⟩
  obtain ⟨W1, hW1⟩ : ∃ W1, W1 = (w1.alloc (.cells #[.int .i64 dM, .int .i64 dG, .int .i64 dF] 41)).alloc (.cells #[.int .i64 xt, .bool xk, .slice xa xn xc] 39) := ⟨_, rfl⟩
  obtain ⟨HS1, HD1, _⟩ := two_boxes (Stay.go HS0 b1) hW1
  clear b1 HS0 HNX
  go_wp2_with fail
  rw [← hW1]
  clear hW1
  refine (cursorBegun_any _).mono ?_
  rintro e w2 ⟨rfl, b2⟩
  have HS2 := Stay.go HS1 b2
  have HD2 := Stay.go HD1 b2
  clear b2 HS1 HD1
  go_wp2_with fail
  refine (storeBegun_any _).mono ?_
  rintro e w3 ⟨rfl, b3⟩
  have HS3 := Stay.go HS2 b3
  have HD3 := Stay.go HD2 b3
  clear b3 HS2 HD2
  obtain ⟨k0, k1, k2⟩ := HS3.out.now.1.1.three
  obtain ⟨c0, c1, c2⟩ := HS3.out.now.1.2.1.three
  obtain ⟨j0, j1, j2⟩ := HS3.out.now.1.2.2.three
  obtain ⟨d0, d1, d2⟩ := HD3.out.now.1.three
  obtain ⟨x0, x1, x2⟩ := HD3.out.now.2.three
  by_cases hE : E = 0
  case neg =>
    obtain ⟨rfl, rfl, rfl, rfl, rfl⟩ := HBAD.out hE
    have hq := fun W => eql_cur 0 0 0 0 0 0 W
    have BW : Hid (Below w.heap.size w w3) := HS3.out.now.2.2.2
    clear HS3 HD3
    go_wp2
    go_ret
    exact ⟨rfl, BW.out⟩
  subst hE
  cases K
  case true =>
    obtain ⟨hm2, hTx, hd1, hxd, hcu, hm3⟩ := HSOME.out rfl rfl
    have hd1' : ¬ dF < 1 := by omega
    have hm2' : (m == 2) = false := by simpa using hm2
    have hxd' : (dF == 1) = xk := hxd.symm
    have HM3 : Hid (m = 3 → xt ≤ upto) := hm3
    have HCK' := HCK.out w3
    rw [hcu] at HCK'
    have HAD : Hid (∀ w4, Below w3.heap.size w3 w4 → Calls Try.prog 19 #[.agg #[.int .i64 first, .slice ga ln gc, .slice oa lo oc], .agg #[.int .i64 ft, .bool fk, .slice pa pn pc]] w4 fun e w' => ∃ va vc qa qc, e = .returned (.tuple #[.agg #[.int .i64 F2, .slice va nA vc, .slice qa nO qc], .bool B2, .int .i64 E2]) ∧ Below w4.heap.size w4 w' ∧ Below w.heap.size w w') := fun w4 b4 => by
      have h4 := (HS3.out.step b4).now.2.2.2
      refine (HADD.out w4 h4).mono ?_
      rintro e w' ⟨va, vc, qa, qc, rfl, _, _, b⟩
      exact ⟨va, vc, qa, qc, rfl, b, h4.trans (b.mono h4.size)⟩
    clear hd1 hcu HCK HN3 HNONE HBAD HSOME HALL hm3 hm2 hxd HADD HRO HRO2 HPL
    go_upto_region 9 with fail
    go_cut [102] (fun s102 wc => s102 = .bool false ∧ Hid (Below w3.heap.size w3 wc))
    case first =>
      have hTT : T = false ∨ (T = true ∧ xk = true) := by
        cases T
        · exact .inl rfl
        · exact .inr ⟨rfl, hTx rfl⟩
      clear hTx
      rcases hTT with rfl | ⟨rfl, rfl⟩
      all_goals
        go_wp2_with fail
        refine HCK'.mono ?_
        rintro e w4 ⟨rfl, b4⟩
        have B4 : Hid (Below w3.heap.size w3 w4) := b4
        clear k0 k1 k2 c0 c1 c2 j0 j1 j2 d0 d1 d2 x0 x1 x2 HCK'
        have HS4 := Stay.go HS3 b4
        have HD4 := Stay.go HD3 b4
        clear b4
        obtain ⟨c0, c1, c2⟩ := HS4.out.now.1.2.1.three
        obtain ⟨x0, x1, x2⟩ := HD4.out.now.2.three
        by_cases hm3 : m = 3
        · have hle : ¬ upto < xt := by have := HM3.out hm3; omega
          have hm3' : (m == 3) = true := by simpa using hm3
          clear hm3
          go_wp2_with fail
          go_meet
          case rel => exact ⟨by simp; omega, B4.out⟩
        · have hm3' : (m == 3) = false := by simpa using hm3
          clear hm3
          go_wp2_with fail
          go_meet
          case rel => exact ⟨by simp; omega, B4.out⟩
    case rest =>
      obtain ⟨rfl, HB⟩ := hcut
      clear k0 k1 k2 c0 c1 c2 j0 j1 j2 d0 d1 d2 x0 x1 x2 HCK'
      have HS5 := Stay.go HS3 HB.out
      have HAC := HAD.out wc HB.out
      clear HS3 HD3 HB HAD
      obtain ⟨k0, k1, k2⟩ := HS5.out.now.1.1.three
      obtain ⟨j0, j1, j2⟩ := HS5.out.now.1.2.2.three
      go_wp2_with fail
      refine HAC.mono ?_
      rintro e w6 ⟨va, vc, qa, qc, rfl, b6, b6w⟩
      have BW : Hid (Below w.heap.size w (w6.alloc (.cells #[.int .i64 F2, .slice va nA vc, .slice qa nO qc] 36))) := b6w.alloc b6w.size _
      clear b6 b6w k0 k1 k2 j0 j1 j2 HS5 HAC
      by_cases hE2 : E2 = 0
      · subst hE2
        go_wp2
        go_ret
        exact ⟨rfl, BW.out⟩
      · go_wp2
        go_ret
        exact ⟨rfl, BW.out⟩
  case false =>
    obtain ⟨e1, e2, e3, rfl, rfl, _⟩ := HNONE.out rfl rfl
    subst e1 e2 e3
    have hq := fun W => neql_cur dM dG dF dM dG dF W
    clear HCK HNONE HBAD HSOME
    go_upto_region 11 with fail
    clear hq
    go_wp2_with fail
    refine (HADD.out _ HS3.out.now.2.2.2).mono ?_
    rintro e w4 ⟨va, vc, qa, qc, rfl, G4, O4, b4⟩
    obtain ⟨W4, hW4⟩ : ∃ W4, W4 = w4.alloc (.cells #[.int .i64 F2, .slice va nA vc, .slice qa nO qc] 36) := ⟨_, rfl⟩
    have HS4 := Stay.go HS3 b4
    have HT4 : Hid (Stay W4 (fun U => (Blk U w4.heap.size #[.int .i64 F2, .slice va nA vc, .slice qa nO qc] 36 ∧ GrsIn (fun _ => True) U (.slice va nA vc) L2 ∧ FrsIn (fun _ => True) U (.slice qa nO qc) O2))) := (Blk.newE hW4).stay.and ((G4.out.allocE hW4).stay.and (O4.out.allocE hW4).stay)
    have HS4' := Stay.allocE HS4 hW4
    clear HADD HS3 HD3 b4 HS4 G4 O4 k0 k1 k2 c0 c1 c2 j0 j1 j2 d0 d1 d2 x0 x1 x2
    obtain ⟨k0, k1, k2⟩ := HS4'.out.now.1.1.three
    obtain ⟨c0, c1, c2⟩ := HS4'.out.now.1.2.1.three
    obtain ⟨j0, j1, j2⟩ := HS4'.out.now.1.2.2.three
    obtain ⟨a0, a1, a2⟩ := HT4.out.now.1.three
    go_upto_region 12 with fail
    rw [← hW4]
    clear hW4
    have BW4 : Hid (Below w.heap.size w W4) := HS4'.out.now.2.2.2
    by_cases hE2 : E2 = 0
    case neg =>
      clear HN3 HALL HS4' HT4
      go_wp2
      go_ret
      exact ⟨rfl, BW4.out⟩
    subst hE2
    by_cases hm1 : dM = 1
    case neg =>
      have hm1' : (dM != 1) = true := by simpa using hm1
      clear HN3 HALL HS4' HT4
      go_wp2
      go_ret
      exact ⟨rfl, BW4.out⟩
    subst hm1
    have HAL := HALL.out (by first | rfl | trivial) W4 BW4.out
    by_cases hq0 : q = 0
    case pos =>
      subst hq0
      clear HN3 HS4' HT4
      go_wp2_with fail
      refine HAL.mono ?_
      rintro e w5 ⟨aa, ac, rfl, b5⟩
      have BW5 : Hid (Below w.heap.size w w5) := BW4.out.trans (b5.mono BW4.out.size)
      clear b5
      go_wp2
      go_ret
      exact ⟨rfl, BW5.out⟩
    obtain ⟨K3, T3, m3, g3, f3, Y, HK1, HK0, HN⟩ := HN3.out (by first | rfl | trivial) (by first | rfl | trivial) (by first | rfl | trivial) (by first | rfl | trivial) hq0
    have hqi : ((q : Int) == 0) = false := by simp; omega
    have HK1' : Hid (K3 = true → Y = f ∧ (fk = true ∨ ¬ nO = lo)) := HK1
    have HK0' : Hid (K3 = false → fk = false ∧ O2 = O) := HK0
    obtain ⟨Yt, hYt⟩ : ∃ t, t = Y.time := ⟨_, rfl⟩
    obtain ⟨Yk, hYk⟩ : ∃ t, t = Y.key := ⟨_, rfl⟩
    obtain ⟨Yn, hYn⟩ : ∃ t, t = Y.parts.length := ⟨_, rfl⟩
    rw [← hYt, ← hYk, ← hYn] at HN
    have HYY : Hid (Yt = Y.time ∧ Yk = Y.key ∧ Yn = Y.parts.length) := ⟨hYt, hYk, hYn⟩
    clear hYt hYk hYn HK1 HK0 HN3 HALL
    go_wp2_with fail
    refine HAL.mono ?_
    rintro e w5 ⟨aa, ac, rfl, b5⟩
    have HS5 := Stay.go HS4' b5
    have HT5 := Stay.go HT4 b5
    have HN' := HN w5 _ _ HT5.out.now.2.1 HT5.out.now.2.2
    clear b5 HS4' HT4 HAL BW4 HN k0 k1 k2 c0 c1 c2 j0 j1 j2 a0 a1 a2
    obtain ⟨c0, c1, c2⟩ := HS5.out.now.1.2.1.three
    obtain ⟨a0, a1, a2⟩ := HT5.out.now.1.three
    go_upto_region 14 with fail
    clear hqi
    go_wp2_with fail
    refine HN'.mono ?_
    rintro e w6 ⟨ya, yc, rfl, Y6, b6⟩
    obtain ⟨W6, hW6⟩ : ∃ W6, W6 = (w6.alloc (.cells #[.int .i64 m3, .int .i64 g3, .int .i64 f3] 41)).alloc (.cells #[.int .i64 Yt, .bool Yk, .slice ya Yn yc] 39) := ⟨_, rfl⟩
    obtain ⟨HS6, HD6, b66⟩ := two_boxes (Stay.go HS5 b6) hW6
    have HT6 := Stay.go (Stay.go HT5 b6) b66
    have HY6 : Hid (StrsIn (fun _ => True) W6 (.slice ya Yn yc) Y.parts) := Y6.out.below b66
    clear b6 b66 HS5 HT5 Y6 HN' c0 c1 c2 a0 a1 a2
    go_upto_region 15 with fail
    rw [← hW6]
    clear hW6
    obtain ⟨k0, k1, k2⟩ := HS6.out.now.1.1.three
    obtain ⟨j0, j1, j2⟩ := HS6.out.now.1.2.2.three
    obtain ⟨a0, a1, a2⟩ := HT6.out.now.1.three
    obtain ⟨y0, y1, y2⟩ := HD6.out.now.2.three
    have z0 := cell_regrown k2
    have z1 := cell_regrown j0
    have z2 := cell_regrown j1
    have z3 := cell_regrown j2
    have z4 := cell_regrown a2
    have z5 := cell_regrown y0
    have z6 := cell_regrown y1
    have z7 := cell_regrown y2
    clear k0 k1 k2 j0 j1 j2 a0 a1 a2 y0 y1 y2
    obtain ⟨S1, hS1⟩ : ∃ s : Int, s = szG O2 := ⟨_, rfl⟩
    obtain ⟨S2, hS2⟩ : ∃ s : Int, s = szG O := ⟨_, rfl⟩
    have BW6 : Hid (Below w.heap.size w W6) := HS6.out.now.2.2.2
    have cS1 : ∀ d os, Calls Try.prog 29 #[.agg #[.slice qa nO qc]] (grow (redrawn W6 d) os) fun e w'' => e = .returned (.int .i64 S1) ∧ ∃ p : Regrown, w'' = grow (redrawn W6 p.d) p.os := fun d os =>
      Calls.regrown_of (by rw [hS1]; exact sizeOf_open _ _ _ _ (HT6.out _ (below_regrown W6 d os)).2.2 (HRO2.out (by first | rfl | trivial)))
    have cS2 : ∀ d os, Calls Try.prog 29 #[.agg #[.slice oa lo oc]] (grow (redrawn W6 d) os) fun e w'' => e = .returned (.int .i64 S2) ∧ ∃ p : Regrown, w'' = grow (redrawn W6 p.d) p.os := fun d os =>
      Calls.regrown_of (by rw [hS2]; exact sizeOf_open _ _ _ _ (HS6.out _ (below_regrown W6 d os)).2.2.1 (HRO.out (by first | rfl | trivial)))
    have HSS : Hid (S1 = szG O2 ∧ S2 = szG O) := ⟨hS1, hS2⟩
    clear hS1 hS2
    cases K3
    case false =>
      obtain ⟨hfk, hO⟩ := HK0'.out rfl
      have hSE : S1 = S2 := by rw [HSS.out.1, HSS.out.2, hO]
      have hnl : nO = lo := by rw [HPL.out.2.2.2.1, HPL.out.2.2.2.2, hO]
      have cF := cS1
      subst hfk hSE hnl
      clear hO HSS HPL HRO HRO2 HK0' HK1' HYY HT6 HS6 HD6 HY6 hq0
      refine wp_region_quiet_below (by kernel_rfl) (by kernel_rfl) ?_
      iterate 9 (quiet_step (exact cS1 _ _))
      iterate 22 (quiet_step (exact cS2 _ _))
      refine wpQuiet_step (fun K hK => ?_)
      go_simp
      generalize hA : Act.mk _ _ = A
      refine hK A ?_
      clear hK K
      refine wpQuiet_jump 3 (by rw [← hA]; kernel_rfl) (fun B hB => ?_)
      rw [← hA] at hB
      simp only [List.take, List.drop] at hB ⊢
      simp [putU, go_sem] at hB
      subst hB
      clear hA
      iterate 3 (quiet_step (exact cS1 _ _))
      refine wpQuiet_nil ?_
      intro _ hw'
      obtain ⟨⟨dq, osq⟩, hw''⟩ := hw'
      subst hw''
      have bR := below_regrown W6 dq osq
      obtain ⟨V, hV⟩ : ∃ V, V = grow (redrawn W6 dq) osq := ⟨_, rfl⟩
      rw [← hV] at bR
      rw [← hV]
      have BV : Hid (Below w.heap.size w V) := BW6.out.trans (bR.mono BW6.out.size)
      clear hV cF cS1 cS2 z0 z1 z2 z3 z4 z5 z6 z7 bR
      go_wp2
      go_ret
      exact ⟨rfl, BV.out⟩
    case true =>
      obtain ⟨hYf, hor⟩ := HK1'.out rfl
      have cF : ∀ d os, Calls Try.prog 18 #[.agg #[.int .i64 Yt, .bool Yk, .slice ya Yn yc], .agg #[.int .i64 ft, .bool fk, .slice pa pn pc]] (grow (redrawn W6 d) os) fun e w'' => e = .returned (.bool true) ∧ ∃ p : Regrown, w'' = grow (redrawn W6 p.d) p.os := fun d os =>
        Calls.regrown_of (by
          have hP := HY6.out.below (below_regrown W6 d os)
          obtain ⟨q1, q2, q3⟩ := HYY.out
          obtain ⟨_, r2, r3, _⟩ := HPL.out
          rw [hYf] at hP q1 q2
          have := sameFrame_any Yt ft Yk fk _ _ f.parts f.parts _ hP.1 (HS6.out _ (below_regrown W6 d os)).2.1.1 hP.2.1
          rw [q1, r2, q2, r3, sameFB_refl] at this
          rw [q1, r2, q2, r3]
          exact this)
      have HOR : Hid (fk = true ∨ ¬ nO = lo) := hor
      clear hYf hor HSS HPL HRO HRO2 HK0' HK1' HYY HT6 HS6 HD6 HY6 hq0
      by_cases hSE : S1 = S2
      case neg =>
        have hS' : (S1 != S2) = true := by simpa using hSE
        have hS'' : (S1 == S2) = false := by simpa using hSE
        clear hSE
        refine wp_region_quiet_below (by kernel_rfl) (by kernel_rfl) ?_
        iterate 9 (quiet_step (exact cS1 _ _))
        iterate 2 (quiet_step (exact cS2 _ _))
        refine wpQuiet_step (fun K hK => ?_)
        go_simp
        generalize hA : Act.mk _ _ = A
        refine hK A ?_
        clear hK K
        refine wpQuiet_jump 9 (by rw [← hA]; kernel_rfl) (fun B hB => ?_)
        rw [← hA] at hB
        simp only [List.take, List.drop] at hB ⊢
        simp [putU, go_sem] at hB
        subst hB
        clear hA
        iterate 1 (quiet_step (exact cS2 _ _))
        refine wpQuiet_step (fun K hK => ?_)
        go_simp
        generalize hA : Act.mk _ _ = A
        refine hK A ?_
        clear hK K
        refine wpQuiet_jump 2 (by rw [← hA]; kernel_rfl) (fun B hB => ?_)
        rw [← hA] at hB
        simp only [List.take, List.drop] at hB ⊢
        simp [putU, go_sem] at hB
        subst hB
        clear hA
        iterate 13 (quiet_step (exact cF _ _))
        refine wpQuiet_nil ?_
        intro _ hw'
        obtain ⟨⟨dq, osq⟩, hw''⟩ := hw'
        subst hw''
        have bR := below_regrown W6 dq osq
        obtain ⟨V, hV⟩ : ∃ V, V = grow (redrawn W6 dq) osq := ⟨_, rfl⟩
        rw [← hV] at bR
        rw [← hV]
        have BV : Hid (Below w.heap.size w V) := BW6.out.trans (bR.mono BW6.out.size)
        clear hV cF cS1 cS2 z0 z1 z2 z3 z4 z5 z6 z7 bR
        go_wp2
        go_ret
        exact ⟨rfl, BV.out⟩
      subst hSE
      by_cases hnl : nO = lo
      case neg =>
        have hS' : ((nO : Int) != (lo : Int)) = true := by simp; omega
        have hS'' : ((nO : Int) == (lo : Int)) = false := by simp; omega
        clear hnl
        refine wp_region_quiet_below (by kernel_rfl) (by kernel_rfl) ?_
        iterate 9 (quiet_step (exact cS1 _ _))
        iterate 13 (quiet_step (exact cS2 _ _))
        refine wpQuiet_step (fun K hK => ?_)
        go_simp
        generalize hA : Act.mk _ _ = A
        refine hK A ?_
        clear hK K
        refine wpQuiet_jump 2 (by rw [← hA]; kernel_rfl) (fun B hB => ?_)
        rw [← hA] at hB
        simp only [List.take, List.drop] at hB ⊢
        simp [putU, go_sem] at hB
        subst hB
        clear hA
        iterate 13 (quiet_step (exact cF _ _))
        refine wpQuiet_nil ?_
        intro _ hw'
        obtain ⟨⟨dq, osq⟩, hw''⟩ := hw'
        subst hw''
        have bR := below_regrown W6 dq osq
        obtain ⟨V, hV⟩ : ∃ V, V = grow (redrawn W6 dq) osq := ⟨_, rfl⟩
        rw [← hV] at bR
        rw [← hV]
        have BV : Hid (Below w.heap.size w V) := BW6.out.trans (bR.mono BW6.out.size)
        clear hV cF cS1 cS2 z0 z1 z2 z3 z4 z5 z6 z7 bR
        go_wp2
        go_ret
        exact ⟨rfl, BV.out⟩
      subst hnl
      have hfk : fk = true := by rcases HOR.out with h | h
                                 · exact h
                                 · exact absurd rfl h
      subst hfk
      refine wp_region_quiet_below (by kernel_rfl) (by kernel_rfl) ?_
      iterate 9 (quiet_step (exact cS1 _ _))
      iterate 14 (quiet_step (exact cS2 _ _))
      iterate 15 (quiet_step (exact cF _ _))
      refine wpQuiet_nil ?_
      intro _ hw'
      obtain ⟨⟨dq, osq⟩, hw''⟩ := hw'
      subst hw''
      have bR := below_regrown W6 dq osq
      obtain ⟨V, hV⟩ : ∃ V, V = grow (redrawn W6 dq) osq := ⟨_, rfl⟩
      rw [← hV] at bR
      rw [← hV]
      have BV : Hid (Below w.heap.size w V) := BW6.out.trans (bR.mono BW6.out.size)
      clear hV cF cS1 cS2 z0 z1 z2 z3 z4 z5 z6 z7 bR
      go_wp2
      go_ret
      exact ⟨rfl, BV.out⟩

end Go.Proofs.Ytnpaejknoipicae
