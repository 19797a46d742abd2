/-
  Contract: what must be in any case, of streams.
-/
import Derived.Test.YtnpaejknoipicafOutBegun1
import Derived.Test.YtnpaejknoipicafLawPic
namespace Go.Proofs.Ytnpaejknoipicaf
open Go.RowKit

set_option maxHeartbeats 16000000 in
set_option maxRecDepth 100000 in
theorem outBegun_any (w : World) :
    Calls Try.prog 11 #[] w fun e w' => e = .returned (.bool true) ∧ Below w.heap.size w w' := by
  have HS1 : Hid (∀ (U : World) (pa : Option Addr) (pc : Nat), StrsIn (fun _ => True) U (.slice pa 1 pc) [⟨#[97, 98, 99]⟩] → Calls Try.prog 7 #[.agg #[.int .i64 0, .int .i64 0, .int .i64 0], .agg #[.int .i64 500, .bool true, .slice pa 1 pc], .bool false] U fun e w' => ∃ va vc, e = .returned (.tuple #[.agg #[.int .i64 1, .int .i64 10, .int .i64 (-490)], .slice va 1 vc, .int .i64 0]) ∧ w'.ownsRow U.heap.size 38 6 (.slice va 1 vc) 1 (pkCells [⟨1, 10, true, true, true, ⟨#[97, 98, 99]⟩⟩]) ∧ Below U.heap.size U w') := fun U pa pc h => by
    refine (outSend_any 0 0 0 (pf 500 true) (.slice pa 1 pc) false U h).mono ?_
    rw [show sdO 0 0 0 (pf 500 true) false = (1, 10, (-490)) by kernel_rfl, show sdE 0 0 0 (pf 500 true) false = 0 by kernel_rfl, show sdP 0 0 0 (pf 500 true) false = [⟨1, 10, true, true, true, ⟨#[97, 98, 99]⟩⟩] by kernel_rfl]
    rintro e w' ⟨v, rfl, ho, hb⟩
    obtain ⟨va, vc, ev⟩ := owns_slice6 ho
    subst ev
    exact ⟨va, vc, rfl, ho, hb⟩
  have HS2 : Hid (∀ (U : World) (pa : Option Addr) (pc : Nat), StrsIn (fun _ => True) U (.slice pa 1 pc) [⟨#[97, 98, 99]⟩] → Calls Try.prog 7 #[.agg #[.int .i64 1, .int .i64 10, .int .i64 (-490)], .agg #[.int .i64 503, .bool false, .slice pa 1 pc], .bool false] U fun e w' => ∃ va vc, e = .returned (.tuple #[.agg #[.int .i64 2, .int .i64 13, .int .i64 (-490)], .slice va 1 vc, .int .i64 0]) ∧ w'.ownsRow U.heap.size 38 6 (.slice va 1 vc) 1 (pkCells [⟨2, 13, true, true, false, ⟨#[97, 98, 99]⟩⟩]) ∧ Below U.heap.size U w') := fun U pa pc h => by
    refine (outSend_any 1 10 (-490) (pf 503 false) (.slice pa 1 pc) false U h).mono ?_
    rw [show sdO 1 10 (-490) (pf 503 false) false = (2, 13, (-490)) by kernel_rfl, show sdE 1 10 (-490) (pf 503 false) false = 0 by kernel_rfl, show sdP 1 10 (-490) (pf 503 false) false = [⟨2, 13, true, true, false, ⟨#[97, 98, 99]⟩⟩] by kernel_rfl]
    rintro e w' ⟨v, rfl, ho, hb⟩
    obtain ⟨va, vc, ev⟩ := owns_slice6 ho
    subst ev
    exact ⟨va, vc, rfl, ho, hb⟩
  have HS3 : Hid (∀ (U : World) (pa : Option Addr) (pc : Nat), StrsIn (fun _ => True) U (.slice pa 1 pc) [⟨#[97, 98, 99]⟩] → Calls Try.prog 7 #[.agg #[.int .i64 2, .int .i64 13, .int .i64 (-490)], .agg #[.int .i64 2, .bool true, .slice pa 1 pc], .bool true] U fun e w' => ∃ va vc, e = .returned (.tuple #[.agg #[.int .i64 3, .int .i64 23, .int .i64 21], .slice va 1 vc, .int .i64 0]) ∧ w'.ownsRow U.heap.size 38 6 (.slice va 1 vc) 1 (pkCells [⟨3, 23, true, true, true, ⟨#[97, 98, 99]⟩⟩]) ∧ Below U.heap.size U w') := fun U pa pc h => by
    refine (outSend_any 2 13 (-490) (pf 2 true) (.slice pa 1 pc) true U h).mono ?_
    rw [show sdO 2 13 (-490) (pf 2 true) true = (3, 23, 21) by kernel_rfl, show sdE 2 13 (-490) (pf 2 true) true = 0 by kernel_rfl, show sdP 2 13 (-490) (pf 2 true) true = [⟨3, 23, true, true, true, ⟨#[97, 98, 99]⟩⟩] by kernel_rfl]
    rintro e w' ⟨v, rfl, ho, hb⟩
    obtain ⟨va, vc, ev⟩ := owns_slice6 ho
    subst ev
    exact ⟨va, vc, rfl, ho, hb⟩
  have HS4 : Hid (∀ (U : World) (pa : Option Addr) (pc : Nat), StrsIn (fun _ => True) U (.slice pa 1 pc) [⟨#[97, 98, 99]⟩] → Calls Try.prog 7 #[.agg #[.int .i64 2, .int .i64 13, .int .i64 (-490)], .agg #[.int .i64 2, .bool true, .slice pa 1 pc], .bool false] U fun e w' => ∃ va vc, e = .returned (.tuple #[.agg #[.int .i64 0, .int .i64 0, .int .i64 0], .slice va 0 vc, .int .i64 4]) ∧ w'.ownsRow U.heap.size 38 6 (.slice va 0 vc) 0 (pkCells []) ∧ Below U.heap.size U w') := fun U pa pc h => by
    refine (outSend_any 2 13 (-490) (pf 2 true) (.slice pa 1 pc) false U h).mono ?_
    rw [show sdO 2 13 (-490) (pf 2 true) false = (0, 0, 0) by kernel_rfl, show sdE 2 13 (-490) (pf 2 true) false = 4 by kernel_rfl, show sdP 2 13 (-490) (pf 2 true) false = [] by kernel_rfl]
    rintro e w' ⟨v, rfl, ho, hb⟩
    obtain ⟨va, vc, ev⟩ := owns_slice6 ho
    subst ev
    exact ⟨va, vc, rfl, ho, hb⟩
  have HCK : Hid (∀ U : World, Calls Try.prog 12 #[.agg #[.int .i64 3, .int .i64 23, .int .i64 21]] U fun e w' => e = .returned (.int .i64 0) ∧ Below U.heap.size U w') := fun U => by
    have := outCheck_any 3 23 21 U
    rw [show outE 3 23 21 = 0 by kernel_rfl] at this
    exact this
  go_enter Try.func11, Try.ntmps11
  go_wp2_with fail
  refine (pic_any 500 true w).mono ?_
  rintro e w1 ⟨rfl, q1, b1⟩
  go_wp2_with fail
  refine (HS1.out w1 _ _ (q1.mono fun _ _ _ => trivial)).mono ?_
  rintro e w2 ⟨va1, vc1, rfl, ho1, b2⟩
  obtain ⟨W1, hW1⟩ : ∃ W1, W1 = w2.alloc (.cells #[.int .i64 1, .int .i64 10, .int .i64 (-490)] 23) := ⟨_, rfl⟩
  obtain ⟨CB, hCB⟩ : ∃ n, n = w2.heap.size := ⟨_, rfl⟩
  have KC : Hid (Blk W1 CB #[.int .i64 1, .int .i64 10, .int .i64 (-490)] 23) := by rw [hCB]; exact Blk.newE hW1
  have B1 : Hid (Below w.heap.size w W1) := by
    have h2 : Below w.heap.size w w2 := b1.trans (b2.mono b1.size)
    rw [hW1]; exact h2.alloc h2.size _
  have HR1 : Hid (Stay W1 (fun U => Pks U (.slice va1 1 vc1) ([⟨1, 10, true, true, true, ⟨#[97, 98, 99]⟩⟩] : List Pk))) := by
    have h : Pks W1 (.slice va1 1 vc1) ([⟨1, 10, true, true, true, ⟨#[97, 98, 99]⟩⟩] : List Pk) := by rw [hW1]; exact Sl.of_owns (ho1.alloc _)
    exact fun U hU => h.below hU
  clear b1 b2 q1 ho1 HS1
  go_wp2_with fail
  rw [← hW1, ← hCB]
  clear hW1 hCB
  refine region_boxes (by kernel_rfl) (by kernel_rfl) [.quiet (.agg #[.int .i64 1, .int .i64 10, .int .i64 (-490)]) 3, .step 0, .step 1, .fin 1 (fun r => r), .fin 1 (exT 0), .fin 1 (exT 1), .fin 1 (exT 2), .box, .step 2, .fin 1 (exT 1), .fin 1 (exT 2)] [1, 2, 8] (by kernel_rfl)
    (SdI W1 (2) (13) ((-490)) ([⟨2, 13, true, true, false, ⟨#[97, 98, 99]⟩⟩] : List Pk) 0 (pf 503 false)) ?i0 ?step ?fin
  case i0 => exact ⟨⟨rfl, rfl, rfl, Nat.le_refl _, fun _ _ => rfl⟩, fun _ hp => (by cases hp), fun h => (by omega), fun h => (by omega), fun h => (by omega)⟩
  case step =>
    intro i o ho a' w' s r b hI hfree hvals hbx
    have f1 : a'.eval (.tmp 1) = .pointer (some ⟨CB, 0, none⟩) := (hfree 1 (by kernel_rfl)).trans rfl
    obtain ⟨y0, y1, y2⟩ := (KC.out.below hI.bel KC.out.lt).three
    have ec : ∀ v, a'.eval (.const v) = v := fun _ => rfl
    match i, ho with
    | 0, ho =>
      simp at ho; subst ho
      show s ≤ 3 → (execOp a'.eval _).run _ w' = .ok (.value _) w'
      intro _
      generalize a'.eval = ρ at *
      simp [execOp, go_sem, f1, y0, y1, y2]
    | 1, ho =>
      simp at ho; subst ho
      show s = 0 → _
      intro hs
      subst hs
      have ef : a'.eval (.func 29) = .func (.func 29) #[] #[] := rfl
      refine oper_wp_call (f := 29) (args := #[.int .i64 503, .bool false]) ?_ ((pic_any 503 false w').mono ?_)
      · generalize a'.eval = ρ at *
        simp [execOp, go_sem, ef, ec]
      · rintro e w'' ⟨rfl, q1, b1⟩
        exact ⟨_, rfl, _, rfl, SdI.call0 hI b1 _ _ (q1.mono fun _ _ _ => trivial)⟩
    | 2, ho =>
      simp at ho; subst ho
      show s = 1 → _
      intro hs
      subst hs
      obtain ⟨pa, pc, er, q1⟩ := hI.one rfl
      have e1 : a'.eval (.tmp 22) = .agg #[.int .i64 503, .bool false, .slice pa 1 pc] := (hvals 1 _ _ (by kernel_rfl) rfl rfl).trans er
      have e2 : a'.eval (.tmp 21) = .agg #[.int .i64 1, .int .i64 10, .int .i64 (-490)] := hvals 0 _ _ (by kernel_rfl) rfl rfl
      have ef : a'.eval (.func 7) = .func (.func 7) #[] #[] := rfl
      refine oper_wp_call (f := 7) (args := #[.agg #[.int .i64 1, .int .i64 10, .int .i64 (-490)], .agg #[.int .i64 503, .bool false, .slice pa 1 pc], .bool false]) ?_ ((HS2.out w' pa pc q1).mono ?_)
      · generalize a'.eval = ρ at *
        simp [execOp, go_sem, e1, e2, ef, ec]
      · rintro e w'' ⟨va, vc, rfl, ho, b1⟩
        exact ⟨_, rfl, _, rfl, SdI.call1 hI b1 _ _ ho⟩
    | 3, ho =>
      simp at ho; subst ho
      have e1 : a'.eval (.tmp 23) = r 1 := hvals 2 _ _ (by kernel_rfl) rfl rfl
      show 1 < s → (execOp a'.eval _).run _ w' = .ok (.value _) w'
      intro hs
      obtain ⟨va, vc, er, _⟩ := hI.two hs
      rw [er] at e1 ⊢
      generalize a'.eval = ρ at *
      simp [execOp, go_sem, e1]
    | 4, ho =>
      simp at ho; subst ho
      have e1 : a'.eval (.tmp 20) = r 1 := hvals 3 _ _ (by kernel_rfl) rfl rfl
      show 1 < s → (execOp a'.eval _).run _ w' = .ok (.value _) w'
      intro hs
      obtain ⟨va, vc, er, _⟩ := hI.two hs
      rw [er] at e1 ⊢
      simp only [exT] at e1 ⊢
      generalize a'.eval = ρ at *
      simp [execOp, go_sem, e1]
    | 5, ho =>
      simp at ho; subst ho
      have e1 : a'.eval (.tmp 20) = r 1 := hvals 3 _ _ (by kernel_rfl) rfl rfl
      show 1 < s → (execOp a'.eval _).run _ w' = .ok (.value _) w'
      intro hs
      obtain ⟨va, vc, er, _⟩ := hI.two hs
      rw [er] at e1 ⊢
      simp only [exT] at e1 ⊢
      generalize a'.eval = ρ at *
      simp [execOp, go_sem, e1]
    | 6, ho =>
      simp at ho; subst ho
      have e1 : a'.eval (.tmp 20) = r 1 := hvals 3 _ _ (by kernel_rfl) rfl rfl
      show 1 < s → (execOp a'.eval _).run _ w' = .ok (.value _) w'
      intro hs
      obtain ⟨va, vc, er, _⟩ := hI.two hs
      rw [er] at e1 ⊢
      simp only [exT] at e1 ⊢
      generalize a'.eval = ρ at *
      simp [execOp, go_sem, e1]
    | 7, ho =>
      simp at ho; subst ho
      show b 7 = none → _
      intro hb
      refine ⟨.cells #[.int .i64 0, .int .i64 0, .int .i64 0] 23, ?_, hI.box hb⟩
      generalize a'.eval = ρ at *
      simp [execOp, go_sem]
    | 8, ho =>
      simp at ho; subst ho
      show s = 2 → _
      intro hs
      subst hs
      obtain ⟨va, vc, er, _⟩ := hI.two (by omega)
      obtain ⟨p, hp⟩ := Option.isSome_iff_exists.1 (hbx 7 (by kernel_rfl) rfl)
      have kg := (hI.seven p hp).2.2.1 (Nat.le_refl _)
      have e1 : a'.eval (.tmp 4) = .pointer (some ⟨p, 0, none⟩) := (hvals 7 _ _ (by kernel_rfl) rfl rfl).trans (by show Cm.out r b 7 .box = _; simp [Cm.out, hp])
      have e2 : a'.eval (.tmp 24) = .agg #[.int .i64 2, .int .i64 13, .int .i64 (-490)] := (hvals 4 _ _ (by kernel_rfl) rfl rfl).trans (by show exT 0 (r 1) = _; rw [er]; rfl)
      obtain ⟨t0, t1, t2⟩ := kg.three
      have fr := kg.free
      refine oper_wp_skip (w' := ((w'.setCell ⟨p, 0, none⟩ (.int .i64 2)).setCell ⟨p, 1, none⟩ (.int .i64 13)).setCell ⟨p, 2, none⟩ (.int .i64 (-490))) ?_ ⟨_, rfl, ?_⟩
      · generalize a'.eval = ρ at *
        simp [execOp, go_sem, e1, e2, t0, t1, t2, fr]
      · exact SdI.put hI hp _
    | 9, ho =>
      simp at ho; subst ho
      have e1 : a'.eval (.tmp 25) = exT 1 (r 1) := hvals 5 _ _ (by kernel_rfl) rfl rfl
      show 1 < s → (execOp a'.eval _).run _ w' = .ok (.value _) w'
      intro hs
      obtain ⟨va, vc, er, _⟩ := hI.two hs
      rw [er] at e1 ⊢
      simp only [exT] at e1 ⊢
      generalize a'.eval = ρ at *
      simp [execOp, go_sem, e1]
    | 10, ho =>
      simp at ho; subst ho
      have e1 : a'.eval (.tmp 26) = exT 2 (r 1) := hvals 6 _ _ (by kernel_rfl) rfl rfl
      show 1 < s → (execOp a'.eval _).run _ w' = .ok (.value _) w'
      intro hs
      obtain ⟨va, vc, er, _⟩ := hI.two hs
      rw [er] at e1 ⊢
      simp only [exT] at e1 ⊢
      generalize a'.eval = ρ at *
      simp [execOp, go_sem, e1]
    | i + 11, ho => simp at ho
  case fin =>
    rintro r b Y2 hI hbxs
    obtain ⟨p, hp⟩ := hbxs 7 (by decide) rfl
    obtain ⟨va, vc, er, hrow, _⟩ := hI.two (by decide)
    obtain ⟨_, _, _, n4⟩ := hI.seven p hp
    have KD : Hid (Blk Y2 p #[.int .i64 2, .int .i64 13, .int .i64 (-490)] 23) := n4 (by decide)
    have HBW : Hid (Below W1.heap.size W1 Y2) := hI.bel
    have HR2 : Hid (Stay Y2 (fun U => Pks U (.slice va 1 vc) ([⟨2, 13, true, true, false, ⟨#[97, 98, 99]⟩⟩] : List Pk))) := fun U hU => Pks.below (Sl.of_owns hrow) hU
    simp only [putM, Cm.out, er, hp, exT, Act.put, List.setIfInBounds_toArray, List.set_cons_succ, List.set_cons_zero, List.getElem?_toArray, List.getElem?_cons_zero, List.getElem?_cons_succ, Option.getD_some, List.length_cons, List.length_nil, Nat.zero_add]
    clear hI hbxs hp er n4 hrow
    have HRY := Stay.go HR1 HBW.out
    have B2 : Hid (Below w.heap.size w Y2) := B1.out.trans (HBW.out.mono B1.out.size)
    obtain ⟨va2, hva2⟩ : ∃ x, x = va := ⟨_, rfl⟩
    obtain ⟨vc2, hvc2⟩ : ∃ x, x = vc := ⟨_, rfl⟩
    obtain ⟨PB, hPB⟩ : ∃ x, x = p := ⟨_, rfl⟩
    subst hva2 hvc2 hPB
    clear KC HBW B1 HR1 HS2
    go_wp2_with fail
    refine region_boxes (by kernel_rfl) (by kernel_rfl) [.quiet (.agg #[.int .i64 2, .int .i64 13, .int .i64 (-490)]) 3, .step 0, .step 1, .fin 1 (fun r => r), .fin 1 (exT 0), .fin 1 (exT 1), .fin 1 (exT 2), .box, .step 2, .fin 1 (exT 1), .fin 1 (exT 2)] [1, 2, 8] (by kernel_rfl)
      (SdI Y2 (3) (23) (21) ([⟨3, 23, true, true, true, ⟨#[97, 98, 99]⟩⟩] : List Pk) 0 (pf 2 true)) ?i0 ?step ?fin
    case i0 => exact ⟨⟨rfl, rfl, rfl, Nat.le_refl _, fun _ _ => rfl⟩, fun _ hp => (by cases hp), fun h => (by omega), fun h => (by omega), fun h => (by omega)⟩
    case step =>
      intro i o ho a' w' s r b hI hfree hvals hbx
      have f1 : a'.eval (.tmp 4) = .pointer (some ⟨PB, 0, none⟩) := (hfree 4 (by kernel_rfl)).trans rfl
      obtain ⟨y0, y1, y2⟩ := (KD.out.below hI.bel KD.out.lt).three
      have ec : ∀ v, a'.eval (.const v) = v := fun _ => rfl
      match i, ho with
      | 0, ho =>
        simp at ho; subst ho
        show s ≤ 3 → (execOp a'.eval _).run _ w' = .ok (.value _) w'
        intro _
        generalize a'.eval = ρ at *
        simp [execOp, go_sem, f1, y0, y1, y2]
      | 1, ho =>
        simp at ho; subst ho
        show s = 0 → _
        intro hs
        subst hs
        have ef : a'.eval (.func 29) = .func (.func 29) #[] #[] := rfl
        refine oper_wp_call (f := 29) (args := #[.int .i64 2, .bool true]) ?_ ((pic_any 2 true w').mono ?_)
        · generalize a'.eval = ρ at *
          simp [execOp, go_sem, ef, ec]
        · rintro e w'' ⟨rfl, q1, b1⟩
          exact ⟨_, rfl, _, rfl, SdI.call0 hI b1 _ _ (q1.mono fun _ _ _ => trivial)⟩
      | 2, ho =>
        simp at ho; subst ho
        show s = 1 → _
        intro hs
        subst hs
        obtain ⟨pa, pc, er, q1⟩ := hI.one rfl
        have e1 : a'.eval (.tmp 29) = .agg #[.int .i64 2, .bool true, .slice pa 1 pc] := (hvals 1 _ _ (by kernel_rfl) rfl rfl).trans er
        have e2 : a'.eval (.tmp 28) = .agg #[.int .i64 2, .int .i64 13, .int .i64 (-490)] := hvals 0 _ _ (by kernel_rfl) rfl rfl
        have ef : a'.eval (.func 7) = .func (.func 7) #[] #[] := rfl
        refine oper_wp_call (f := 7) (args := #[.agg #[.int .i64 2, .int .i64 13, .int .i64 (-490)], .agg #[.int .i64 2, .bool true, .slice pa 1 pc], .bool true]) ?_ ((HS3.out w' pa pc q1).mono ?_)
        · generalize a'.eval = ρ at *
          simp [execOp, go_sem, e1, e2, ef, ec]
        · rintro e w'' ⟨va, vc, rfl, ho, b1⟩
          exact ⟨_, rfl, _, rfl, SdI.call1 hI b1 _ _ ho⟩
      | 3, ho =>
        simp at ho; subst ho
        have e1 : a'.eval (.tmp 30) = r 1 := hvals 2 _ _ (by kernel_rfl) rfl rfl
        show 1 < s → (execOp a'.eval _).run _ w' = .ok (.value _) w'
        intro hs
        obtain ⟨va, vc, er, _⟩ := hI.two hs
        rw [er] at e1 ⊢
        generalize a'.eval = ρ at *
        simp [execOp, go_sem, e1]
      | 4, ho =>
        simp at ho; subst ho
        have e1 : a'.eval (.tmp 27) = r 1 := hvals 3 _ _ (by kernel_rfl) rfl rfl
        show 1 < s → (execOp a'.eval _).run _ w' = .ok (.value _) w'
        intro hs
        obtain ⟨va, vc, er, _⟩ := hI.two hs
        rw [er] at e1 ⊢
        simp only [exT] at e1 ⊢
        generalize a'.eval = ρ at *
        simp [execOp, go_sem, e1]
      | 5, ho =>
        simp at ho; subst ho
        have e1 : a'.eval (.tmp 27) = r 1 := hvals 3 _ _ (by kernel_rfl) rfl rfl
        show 1 < s → (execOp a'.eval _).run _ w' = .ok (.value _) w'
        intro hs
        obtain ⟨va, vc, er, _⟩ := hI.two hs
        rw [er] at e1 ⊢
        simp only [exT] at e1 ⊢
        generalize a'.eval = ρ at *
        simp [execOp, go_sem, e1]
      | 6, ho =>
        simp at ho; subst ho
        have e1 : a'.eval (.tmp 27) = r 1 := hvals 3 _ _ (by kernel_rfl) rfl rfl
        show 1 < s → (execOp a'.eval _).run _ w' = .ok (.value _) w'
        intro hs
        obtain ⟨va, vc, er, _⟩ := hI.two hs
        rw [er] at e1 ⊢
        simp only [exT] at e1 ⊢
        generalize a'.eval = ρ at *
        simp [execOp, go_sem, e1]
      | 7, ho =>
        simp at ho; subst ho
        show b 7 = none → _
        intro hb
        refine ⟨.cells #[.int .i64 0, .int .i64 0, .int .i64 0] 23, ?_, hI.box hb⟩
        generalize a'.eval = ρ at *
        simp [execOp, go_sem]
      | 8, ho =>
        simp at ho; subst ho
        show s = 2 → _
        intro hs
        subst hs
        obtain ⟨va, vc, er, _⟩ := hI.two (by omega)
        obtain ⟨p, hp⟩ := Option.isSome_iff_exists.1 (hbx 7 (by kernel_rfl) rfl)
        have kg := (hI.seven p hp).2.2.1 (Nat.le_refl _)
        have e1 : a'.eval (.tmp 7) = .pointer (some ⟨p, 0, none⟩) := (hvals 7 _ _ (by kernel_rfl) rfl rfl).trans (by show Cm.out r b 7 .box = _; simp [Cm.out, hp])
        have e2 : a'.eval (.tmp 31) = .agg #[.int .i64 3, .int .i64 23, .int .i64 21] := (hvals 4 _ _ (by kernel_rfl) rfl rfl).trans (by show exT 0 (r 1) = _; rw [er]; rfl)
        obtain ⟨t0, t1, t2⟩ := kg.three
        have fr := kg.free
        refine oper_wp_skip (w' := ((w'.setCell ⟨p, 0, none⟩ (.int .i64 3)).setCell ⟨p, 1, none⟩ (.int .i64 23)).setCell ⟨p, 2, none⟩ (.int .i64 21)) ?_ ⟨_, rfl, ?_⟩
        · generalize a'.eval = ρ at *
          simp [execOp, go_sem, e1, e2, t0, t1, t2, fr]
        · exact SdI.put hI hp _
      | 9, ho =>
        simp at ho; subst ho
        have e1 : a'.eval (.tmp 32) = exT 1 (r 1) := hvals 5 _ _ (by kernel_rfl) rfl rfl
        show 1 < s → (execOp a'.eval _).run _ w' = .ok (.value _) w'
        intro hs
        obtain ⟨va, vc, er, _⟩ := hI.two hs
        rw [er] at e1 ⊢
        simp only [exT] at e1 ⊢
        generalize a'.eval = ρ at *
        simp [execOp, go_sem, e1]
      | 10, ho =>
        simp at ho; subst ho
        have e1 : a'.eval (.tmp 33) = exT 2 (r 1) := hvals 6 _ _ (by kernel_rfl) rfl rfl
        show 1 < s → (execOp a'.eval _).run _ w' = .ok (.value _) w'
        intro hs
        obtain ⟨va, vc, er, _⟩ := hI.two hs
        rw [er] at e1 ⊢
        simp only [exT] at e1 ⊢
        generalize a'.eval = ρ at *
        simp [execOp, go_sem, e1]
      | i + 11, ho => simp at ho
    case fin =>
      rintro r b Y3 hI hbxs
      obtain ⟨p, hp⟩ := hbxs 7 (by decide) rfl
      obtain ⟨va, vc, er, hrow, _⟩ := hI.two (by decide)
      obtain ⟨_, _, _, n4⟩ := hI.seven p hp
      have KE : Hid (Blk Y3 p #[.int .i64 3, .int .i64 23, .int .i64 21] 23) := n4 (by decide)
      have HBW : Hid (Below Y2.heap.size Y2 Y3) := hI.bel
      simp only [putM, Cm.out, er, hp, exT, Act.put, List.setIfInBounds_toArray, List.set_cons_succ, List.set_cons_zero, List.getElem?_toArray, List.getElem?_cons_zero, List.getElem?_cons_succ, Option.getD_some, List.length_cons, List.length_nil, Nat.zero_add]
      clear hI hbxs hp er n4 hrow
      have HR13 := Stay.go HRY HBW.out
      have HR23 := Stay.go HR2 HBW.out
      have B3 : Hid (Below w.heap.size w Y3) := B2.out.trans (HBW.out.mono B2.out.size)
      have KD3 : Hid (Blk Y3 PB #[.int .i64 2, .int .i64 13, .int .i64 (-490)] 23) := KD.out.below HBW.out KD.out.lt
      obtain ⟨QB, hQB⟩ : ∃ x, x = p := ⟨_, rfl⟩
      subst hQB
      clear KD HBW B2 HRY HR2 HS3
      go_wp2_with fail
      refine region_boxes (by kernel_rfl) (by kernel_rfl) [.quiet (.agg #[.int .i64 2, .int .i64 13, .int .i64 (-490)]) 3, .step 0, .step 1, .fin 1 (fun r => r), .fin 1 (exT 0), .fin 1 (exT 1), .fin 1 (exT 2), .box, .step 2, .fin 1 (exT 1), .fin 1 (exT 2)] [1, 2, 8] (by kernel_rfl)
        (SdI Y3 (0) (0) (0) [] 4 (pf 2 true)) ?i0 ?step ?fin
      case i0 => exact ⟨⟨rfl, rfl, rfl, Nat.le_refl _, fun _ _ => rfl⟩, fun _ hp => (by cases hp), fun h => (by omega), fun h => (by omega), fun h => (by omega)⟩
      case step =>
        intro i o ho a' w' s r b hI hfree hvals hbx
        have f1 : a'.eval (.tmp 4) = .pointer (some ⟨PB, 0, none⟩) := (hfree 4 (by kernel_rfl)).trans rfl
        obtain ⟨y0, y1, y2⟩ := (KD3.out.below hI.bel KD3.out.lt).three
        have ec : ∀ v, a'.eval (.const v) = v := fun _ => rfl
        match i, ho with
        | 0, ho =>
          simp at ho; subst ho
          show s ≤ 3 → (execOp a'.eval _).run _ w' = .ok (.value _) w'
          intro _
          generalize a'.eval = ρ at *
          simp [execOp, go_sem, f1, y0, y1, y2]
        | 1, ho =>
          simp at ho; subst ho
          show s = 0 → _
          intro hs
          subst hs
          have ef : a'.eval (.func 29) = .func (.func 29) #[] #[] := rfl
          refine oper_wp_call (f := 29) (args := #[.int .i64 2, .bool true]) ?_ ((pic_any 2 true w').mono ?_)
          · generalize a'.eval = ρ at *
            simp [execOp, go_sem, ef, ec]
          · rintro e w'' ⟨rfl, q1, b1⟩
            exact ⟨_, rfl, _, rfl, SdI.call0 hI b1 _ _ (q1.mono fun _ _ _ => trivial)⟩
        | 2, ho =>
          simp at ho; subst ho
          show s = 1 → _
          intro hs
          subst hs
          obtain ⟨pa, pc, er, q1⟩ := hI.one rfl
          have e1 : a'.eval (.tmp 36) = .agg #[.int .i64 2, .bool true, .slice pa 1 pc] := (hvals 1 _ _ (by kernel_rfl) rfl rfl).trans er
          have e2 : a'.eval (.tmp 35) = .agg #[.int .i64 2, .int .i64 13, .int .i64 (-490)] := hvals 0 _ _ (by kernel_rfl) rfl rfl
          have ef : a'.eval (.func 7) = .func (.func 7) #[] #[] := rfl
          refine oper_wp_call (f := 7) (args := #[.agg #[.int .i64 2, .int .i64 13, .int .i64 (-490)], .agg #[.int .i64 2, .bool true, .slice pa 1 pc], .bool false]) ?_ ((HS4.out w' pa pc q1).mono ?_)
          · generalize a'.eval = ρ at *
            simp [execOp, go_sem, e1, e2, ef, ec]
          · rintro e w'' ⟨va, vc, rfl, ho, b1⟩
            exact ⟨_, rfl, _, rfl, SdI.call1 hI b1 _ _ ho⟩
        | 3, ho =>
          simp at ho; subst ho
          have e1 : a'.eval (.tmp 37) = r 1 := hvals 2 _ _ (by kernel_rfl) rfl rfl
          show 1 < s → (execOp a'.eval _).run _ w' = .ok (.value _) w'
          intro hs
          obtain ⟨va, vc, er, _⟩ := hI.two hs
          rw [er] at e1 ⊢
          generalize a'.eval = ρ at *
          simp [execOp, go_sem, e1]
        | 4, ho =>
          simp at ho; subst ho
          have e1 : a'.eval (.tmp 34) = r 1 := hvals 3 _ _ (by kernel_rfl) rfl rfl
          show 1 < s → (execOp a'.eval _).run _ w' = .ok (.value _) w'
          intro hs
          obtain ⟨va, vc, er, _⟩ := hI.two hs
          rw [er] at e1 ⊢
          simp only [exT] at e1 ⊢
          generalize a'.eval = ρ at *
          simp [execOp, go_sem, e1]
        | 5, ho =>
          simp at ho; subst ho
          have e1 : a'.eval (.tmp 34) = r 1 := hvals 3 _ _ (by kernel_rfl) rfl rfl
          show 1 < s → (execOp a'.eval _).run _ w' = .ok (.value _) w'
          intro hs
          obtain ⟨va, vc, er, _⟩ := hI.two hs
          rw [er] at e1 ⊢
          simp only [exT] at e1 ⊢
          generalize a'.eval = ρ at *
          simp [execOp, go_sem, e1]
        | 6, ho =>
          simp at ho; subst ho
          have e1 : a'.eval (.tmp 34) = r 1 := hvals 3 _ _ (by kernel_rfl) rfl rfl
          show 1 < s → (execOp a'.eval _).run _ w' = .ok (.value _) w'
          intro hs
          obtain ⟨va, vc, er, _⟩ := hI.two hs
          rw [er] at e1 ⊢
          simp only [exT] at e1 ⊢
          generalize a'.eval = ρ at *
          simp [execOp, go_sem, e1]
        | 7, ho =>
          simp at ho; subst ho
          show b 7 = none → _
          intro hb
          refine ⟨.cells #[.int .i64 0, .int .i64 0, .int .i64 0] 23, ?_, hI.box hb⟩
          generalize a'.eval = ρ at *
          simp [execOp, go_sem]
        | 8, ho =>
          simp at ho; subst ho
          show s = 2 → _
          intro hs
          subst hs
          obtain ⟨va, vc, er, _⟩ := hI.two (by omega)
          obtain ⟨p, hp⟩ := Option.isSome_iff_exists.1 (hbx 7 (by kernel_rfl) rfl)
          have kg := (hI.seven p hp).2.2.1 (Nat.le_refl _)
          have e1 : a'.eval (.tmp 10) = .pointer (some ⟨p, 0, none⟩) := (hvals 7 _ _ (by kernel_rfl) rfl rfl).trans (by show Cm.out r b 7 .box = _; simp [Cm.out, hp])
          have e2 : a'.eval (.tmp 38) = .agg #[.int .i64 0, .int .i64 0, .int .i64 0] := (hvals 4 _ _ (by kernel_rfl) rfl rfl).trans (by show exT 0 (r 1) = _; rw [er]; rfl)
          obtain ⟨t0, t1, t2⟩ := kg.three
          have fr := kg.free
          refine oper_wp_skip (w' := ((w'.setCell ⟨p, 0, none⟩ (.int .i64 0)).setCell ⟨p, 1, none⟩ (.int .i64 0)).setCell ⟨p, 2, none⟩ (.int .i64 0)) ?_ ⟨_, rfl, ?_⟩
          · generalize a'.eval = ρ at *
            simp [execOp, go_sem, e1, e2, t0, t1, t2, fr]
          · exact SdI.put hI hp _
        | 9, ho =>
          simp at ho; subst ho
          have e1 : a'.eval (.tmp 39) = exT 1 (r 1) := hvals 5 _ _ (by kernel_rfl) rfl rfl
          show 1 < s → (execOp a'.eval _).run _ w' = .ok (.value _) w'
          intro hs
          obtain ⟨va, vc, er, _⟩ := hI.two hs
          rw [er] at e1 ⊢
          simp only [exT] at e1 ⊢
          generalize a'.eval = ρ at *
          simp [execOp, go_sem, e1]
        | 10, ho =>
          simp at ho; subst ho
          have e1 : a'.eval (.tmp 40) = exT 2 (r 1) := hvals 6 _ _ (by kernel_rfl) rfl rfl
          show 1 < s → (execOp a'.eval _).run _ w' = .ok (.value _) w'
          intro hs
          obtain ⟨va, vc, er, _⟩ := hI.two hs
          rw [er] at e1 ⊢
          simp only [exT] at e1 ⊢
          generalize a'.eval = ρ at *
          simp [execOp, go_sem, e1]
        | i + 11, ho => simp at ho
      case fin =>
        rintro r b Y4 hI hbxs
        obtain ⟨p, hp⟩ := hbxs 7 (by decide) rfl
        obtain ⟨va, vc, er, hrow, _⟩ := hI.two (by decide)
        obtain ⟨_, _, _, n4⟩ := hI.seven p hp
        have KG : Hid (Blk Y4 p #[.int .i64 0, .int .i64 0, .int .i64 0] 23) := n4 (by decide)
        have HBW : Hid (Below Y3.heap.size Y3 Y4) := hI.bel
        simp only [putM, Cm.out, er, hp, exT, Act.put, List.setIfInBounds_toArray, List.set_cons_succ, List.set_cons_zero, List.getElem?_toArray, List.getElem?_cons_zero, List.getElem?_cons_succ, Option.getD_some, List.length_nil, Nat.zero_add]
        clear hI hbxs hp er n4 hrow
        have HR14 := Stay.go HR13 HBW.out
        have HR24 := Stay.go HR23 HBW.out
        have B4 : Hid (Below w.heap.size w Y4) := B3.out.trans (HBW.out.mono B3.out.size)
        have KE4 : Hid (Blk Y4 QB #[.int .i64 3, .int .i64 23, .int .i64 21] 23) := KE.out.below HBW.out KE.out.lt
        clear KD3 KE HBW B3 HR13 HR23 HS4 KG
        obtain ⟨k0, k1, k2⟩ := KE4.out.three
        go_wp2_with fail
        refine (HCK.out Y4).mono ?_
        rintro e w8 ⟨rfl, b8⟩
        have KE8 := KE4.out.below b8 KE4.out.lt
        have BW : Hid (Below w.heap.size w w8) := B4.out.trans (b8.mono B4.out.size)
        obtain ⟨b1, off1, e1, _, hc1⟩ := (HR14.out w8 b8).at (k := 0) (by decide)
        obtain ⟨b2, off2, e2, _, hc2⟩ := (HR24.out w8 b8).at (k := 0) (by decide)
        have x0 := hc1 0 (.int .i64 1) rfl
        have x1 := hc1 1 (.int .i64 10) rfl
        have x4 := hc1 4 (.bool true) rfl
        have y1 := hc2 1 (.int .i64 13) rfl
        simp only [Nat.zero_mul, Nat.add_zero] at x0 x1 x4 y1
        subst e1 e2
        clear k0 k1 k2 hc1 hc2 HR14 HR24 B4 KE4 b8
        obtain ⟨k0, k1, k2⟩ := KE8.three
        go_wp2
        go_ret
        exact ⟨rfl, BW.out⟩

end Go.Proofs.Ytnpaejknoipicaf
