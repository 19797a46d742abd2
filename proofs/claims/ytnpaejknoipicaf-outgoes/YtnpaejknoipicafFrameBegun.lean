/-
  Contract: switchbacklaw.frameBegun.
-/
import Derived.Test.YtnpaejknoipicafFrameChk2
import Derived.Test.YtnpaejknoipicafFrameAll2
import Derived.Test.YtnpaejknoipicafRegMain
import Derived.Test.YtnpaejknoipicafLawSlot
namespace Go.Proofs.Ytnpaejknoipicaf
open Go.RowKit

abbrev fx0 : Sk := lsk 70000 5 true false true
abbrev fx1 : Sk := lsk 70001 5 false true false
abbrev fx2 : Sk := lsk 70002 5 false true false
abbrev fx3 : Sk := lsk 70003 6 true true false
theorem fadd0 : addE [] fx0 = 0 ∧ addR [] fx0 = ⟨[fx0], 0, false, [], false⟩ := ⟨rfl, rfl⟩
theorem fadd1 : addE [fx0] fx1 = 0 ∧ addR [fx0] fx1 = ⟨[], 5, true, [⟨#[116]⟩, ⟨#[116]⟩], true⟩ := ⟨rfl, rfl⟩
theorem fall3 : framesE [fx0, fx2, fx3] = 0 ∧ framesR [fx0, fx2, fx3] = [⟨6, false, [⟨#[116]⟩]⟩] := ⟨rfl, rfl⟩

set_option maxHeartbeats 4000000 in
set_option maxRecDepth 100000 in
theorem frameBegun_any (w : World) :
    Calls Try.prog 14 #[] w fun e w' => e = .returned (.bool true) ∧ Below w.heap.size w w' := by
  have hs : Hid (∀ (n time : Int) (f e k : Bool) (w : World), 0 ≤ n → n ≤ 1000000000 → Calls Try.prog 31 #[.int .i64 n, .int .i64 time, .bool f, .bool e, .bool k] w fun r w' => r = .returned (lsk n time f e k).val ∧ Below w.heap.size w w') := fun n time f e k w h1 h2 => lslot_any n time f e k w h1 h2
  have ha0 : Hid (∀ w : World, Calls Try.prog 30 #[.agg #[.slice none 0 0], fx0.val] w fun e w' => ∃ a c a' c', e = .returned (.tuple #[.agg #[.slice a 1 c], .agg #[.int .i64 0, .bool false, .slice a' 0 c'], .bool false, .int .i64 0]) ∧ Hid (Sls w' (.slice a 1 c) [fx0]) ∧ Below w.heap.size w w') := fun w => by
    refine (frameAdd_any (.slice none 0 0) [] fx0 w (Sls.nil w) (by simp)).mono ?_
    rw [fadd0.1, fadd0.2]
    rintro e w' ⟨ov, pv, rfl, ⟨h1, h2, _⟩, hb⟩
    obtain ⟨a, c, rfl⟩ := h1.len
    obtain ⟨a', c', rfl⟩ := h2.len
    exact ⟨a, c, a', c', rfl, h1, hb⟩
  have ha1 : Hid (∀ (w : World) (a : Option Addr) (c : Nat), Sls w (.slice a 1 c) [fx0] → Calls Try.prog 30 #[.agg #[.slice a 1 c], fx1.val] w fun e w' => ∃ a c a' c', e = .returned (.tuple #[.agg #[.slice a 0 c], .agg #[.int .i64 5, .bool true, .slice a' 2 c'], .bool true, .int .i64 0]) ∧ Hid (Strs w' (.slice a' 2 c') [⟨#[116]⟩, ⟨#[116]⟩]) ∧ Hid (∀ g, (Value.slice a' 2 c').ownBlock = some g → w.heap.size ≤ g ∧ g < w'.heap.size) ∧ Below w.heap.size w w') := fun w a c hv => by
    refine (frameAdd_any (.slice a 1 c) [fx0] fx1 w hv (by simp)).mono ?_
    rw [fadd1.1, fadd1.2]
    rintro e w' ⟨ov, pv, rfl, ⟨h1, h2, _, h3⟩, hb⟩
    obtain ⟨a, c, rfl⟩ := h1.len
    obtain ⟨a', c', rfl⟩ := h2.len
    exact ⟨a, c, a', c', rfl, h2, h3, hb⟩
  have hal : Hid (∀ (w : World) (v : Value), Sls w v [fx0, fx2, fx3] → Calls Try.prog 16 #[v] w fun e w' => ∃ b off c pv, e = .returned (.tuple #[.slice (some ⟨b, off, none⟩) 1 c, .int .i64 0]) ∧ w'.cell? ⟨b, off, none⟩ = some (.int .i64 6) ∧ w'.cell? ⟨b, off + 1, none⟩ = some (.bool false) ∧ w'.cell? ⟨b, off + 2, none⟩ = some pv ∧ Below w.heap.size w w') := fun w v hv => by
    refine (frameAll_any v [fx0, fx2, fx3] w hv (by simp)).mono ?_
    rw [fall3.1, fall3.2]
    rintro e w' ⟨u, rfl, ho, hb⟩
    obtain ⟨ao, c, rfl, hc⟩ := ho.frs
    obtain ⟨b, off, rfl, _, pv, h1, h2, h3, _⟩ := hc 0 (by simp)
    exact ⟨b, off, c, pv, rfl, by simpa using h1, by simpa using h2, by simpa using h3, hb⟩
  have hck : Hid (∀ (w : World) (a : Option Addr) (c : Nat), Strs w (.slice a 2 c) [⟨#[116]⟩, ⟨#[116]⟩] → Calls Try.prog 23 #[.agg #[.int .i64 5, .bool true, .slice a 2 c]] w fun e w' => e = .returned (.int .i64 0) ∧ Below w.heap.size w w') := fun w a c hv =>
    frameCheck_any 5 true (.slice a 2 c) [⟨#[116]⟩, ⟨#[116]⟩] w hv (by simp)
  simp only [lsk, Sk.val] at hs ha0 ha1
  have e0 : (70000 : Int) % 65536 = 4464 := rfl
  have e1 : (70001 : Int) % 65536 = 4465 := rfl
  have e2 : (70002 : Int) % 65536 = 4466 := rfl
  have e3 : (70003 : Int) % 65536 = 4467 := rfl
  go_enter Try.func14, Try.ntmps14
  go_wp2_with fail
  refine (hs.out 70000 5 true false true _ (by decide) (by decide)).mono ?_
  rintro r w1 ⟨rfl, hb1⟩
  go_wp2_with fail
  refine (ha0.out _).mono ?_
  rintro r w2 ⟨a, c, a', c', rfl, S2, hb2⟩
  have B2 : Hid (Below w.heap.size w w2) := hb1.trans (hb2.mono hb1.size)
  clear hb1 hb2
  go_wp2_with fail
  obtain ⟨V, hV⟩ : ∃ V, V = ((w2.alloc (.cells #[.slice a 1 c] 50)).alloc (.cells #[.int .i64 0, .bool false, .slice a' 0 c'] 26)) := ⟨_, rfl⟩
  rw [← hV]
  have bV : Below w2.heap.size w2 V := by rw [hV]; exact ((Below.refl _ w2).alloc (Nat.le_refl _) _).alloc (by simp) _
  have KV : Hid (Blk V w2.heap.size #[.slice a 1 c] 50) := by rw [hV]; exact (Blk.new w2 _ _).alloc _
  have BV : Hid (Below w.heap.size w V) := B2.out.trans (bV.mono B2.out.size)
  have SV : Hid (Sls V (.slice a 1 c) [fx0]) := S2.out.below bV
  have hw2 : w2.heap.size < V.heap.size := KV.out.lt
  have k0 := KV.out.one
  clear hV bV S2 B2
  refine region_main (by kernel_rfl) (by kernel_rfl) [.quiet (.agg #[.slice a 1 c]), .qcall (.agg #[.int .i64 70001, .int .i64 4465, .int .i64 5, .bool false, .bool true, .bool false, .string ⟨#[116]⟩]), .main, .fin (fun r => r), .fin (exT 0), .fin (exT 1), .fin (exT 2), .fin (exT 3), .box 50 #[.slice none 0 0], .box 26 #[.int .i64 0, .bool false, .slice none 0 0], .put 8 (fun r => aggC (exT 0 r)), .put 9 (fun r => aggC (exT 1 r)), .fin (exT 2), .fin (exT 3)] 2 (by kernel_rfl)
    (fun S r w' => ∃ a1 c1 a2 c2, r = .tuple #[.agg #[.slice a1 0 c1], .agg #[.int .i64 5, .bool true, .slice a2 2 c2], .bool true, .int .i64 0] ∧ Strs w' (.slice a2 2 c2) [⟨#[116]⟩, ⟨#[116]⟩] ∧ ∀ g, (Value.slice a2 2 c2).ownBlock = some g → S g ∧ g < w'.heap.size) ?loc ?step ?fin
  case loc =>
    rintro S r w1 w3 ⟨a1, c1, a2, c2, rfl, h3, h4⟩ hs hsame
    exact ⟨a1, c1, a2, c2, rfl, Sl.same h3 hs (fun g hg => hsame g (h4 g hg).1 (h4 g hg).2), fun g hg => ⟨(h4 g hg).1, Nat.lt_of_lt_of_le (h4 g hg).2 hs⟩⟩
  case step =>
    intro i o ho a' w' r hb hfree hvals
    have f1 : a'.eval (.tmp 1) = .pointer (some ⟨w2.heap.size, 0, none⟩) := (hfree 1 (by kernel_rfl)).trans rfl
    have y0 := (hb.cell (p := ⟨w2.heap.size, 0, none⟩) hw2).trans k0
    match i, ho with
    | 0, ho =>
      simp at ho; subst ho
      show (execOp a'.eval _).run _ w' = .ok (.value _) w'
      generalize a'.eval = ρ at *
      simp [execOp, go_sem, f1, y0]
    | 1, ho =>
      simp at ho; subst ho
      have ef : a'.eval (.func 31) = .func (.func 31) #[] #[] := rfl
      have ec : ∀ v, a'.eval (.const v) = v := fun _ => rfl
      show ∃ f args, (execOp a'.eval _).run _ w' = .ok (.enter f args) w' ∧ _
      generalize a'.eval = ρ at *
      exact ⟨31, #[.int .i64 70001, .int .i64 5, .bool false, .bool true, .bool false], by simp [execOp, go_sem, ef, ec], hs.out 70001 5 false true false w' (by decide) (by decide)⟩
    | 2, ho =>
      simp at ho; subst ho
      have e1 : a'.eval (.tmp 20) = .agg #[.slice a 1 c] := hvals 0 _ (by kernel_rfl) rfl
      have e2 : a'.eval (.tmp 21) = .agg #[.int .i64 70001, .int .i64 4465, .int .i64 5, .bool false, .bool true, .bool false, .string ⟨#[116]⟩] := hvals 1 _ (by kernel_rfl) rfl
      have ef : a'.eval (.func 30) = .func (.func 30) #[] #[] := rfl
      show ∃ f args, (execOp a'.eval _).run _ w' = .ok (.enter f args) w' ∧ _
      generalize a'.eval = ρ at *
      refine ⟨30, #[.agg #[.slice a 1 c], .agg #[.int .i64 70001, .int .i64 4465, .int .i64 5, .bool false, .bool true, .bool false, .string ⟨#[116]⟩]], by simp [execOp, go_sem, e1, e2, ef], ?_⟩
      refine (ha1.out w' a c (SV.out.below hb)).mono ?_
      rintro e w'' ⟨a1, c1, a2, c2, rfl, s1, s2, hb4⟩
      exact ⟨_, rfl, ⟨a1, c1, a2, c2, rfl, s1.out, fun g hg => ⟨⟨(s2.out g hg).2, .inr (s2.out g hg).1⟩, (s2.out g hg).2⟩⟩, hb4⟩
    | 3, ho =>
      simp at ho; subst ho
      have e1 : a'.eval (.tmp 22) = r := hvals 2 _ (by kernel_rfl) rfl
      show ∀ S, _ → (execOp a'.eval _).run _ w' = .ok (.value r) w'
      rintro S -
      generalize a'.eval = ρ at *
      simp [execOp, go_sem, e1]
    | 4, ho =>
      simp at ho; subst ho
      have e1 : a'.eval (.tmp 19) = r := hvals 3 _ (by kernel_rfl) rfl
      show ∀ S, _ → (execOp a'.eval _).run _ w' = .ok (.value (exT 0 r)) w'
      rintro S ⟨a1, c1, a2, c2, rfl, _⟩
      generalize a'.eval = ρ at *
      simp [execOp, go_sem, e1, exT]
    | 5, ho =>
      simp at ho; subst ho
      have e1 : a'.eval (.tmp 19) = r := hvals 3 _ (by kernel_rfl) rfl
      show ∀ S, _ → (execOp a'.eval _).run _ w' = .ok (.value (exT 1 r)) w'
      rintro S ⟨a1, c1, a2, c2, rfl, _⟩
      generalize a'.eval = ρ at *
      simp [execOp, go_sem, e1, exT]
    | 6, ho =>
      simp at ho; subst ho
      have e1 : a'.eval (.tmp 19) = r := hvals 3 _ (by kernel_rfl) rfl
      show ∀ S, _ → (execOp a'.eval _).run _ w' = .ok (.value (exT 2 r)) w'
      rintro S ⟨a1, c1, a2, c2, rfl, _⟩
      generalize a'.eval = ρ at *
      simp [execOp, go_sem, e1, exT]
    | 7, ho =>
      simp at ho; subst ho
      have e1 : a'.eval (.tmp 19) = r := hvals 3 _ (by kernel_rfl) rfl
      show ∀ S, _ → (execOp a'.eval _).run _ w' = .ok (.value (exT 3 r)) w'
      rintro S ⟨a1, c1, a2, c2, rfl, _⟩
      generalize a'.eval = ρ at *
      simp [execOp, go_sem, e1, exT]
    | 8, ho =>
      simp at ho; subst ho
      show (execOp a'.eval _).run _ w' = .ok (.value _) _
      generalize a'.eval = ρ at *
      simp [execOp, go_sem]
    | 9, ho =>
      simp at ho; subst ho
      show (execOp a'.eval _).run _ w' = .ok (.value _) _
      generalize a'.eval = ρ at *
      simp [execOp, go_sem]
    | 10, ho =>
      simp at ho; subst ho
      have e1 : a'.eval (.tmp 23) = exT 0 r := hvals 4 _ (by kernel_rfl) rfl
      show ∀ S, _ → ∀ t z g C, _ → _ → _ → _ → ∃ w'', (execOp a'.eval _).run _ w' = .ok .skip w'' ∧ _
      rintro S ⟨a1, c1, a2, c2, rfl, _⟩ t z g C hz hC hs (e2 : a'.eval (.tmp 5) = _)
      cases hz
      obtain ⟨u0, q0⟩ := cells1 hC hs
      have q1 := hC.free 0
      obtain ⟨m1, m2, m3⟩ := set1 hC hs (.slice a1 0 c1)
      simp only [exT] at e1
      generalize a'.eval = ρ at *
      exact ⟨_, by simp [execOp, go_sem, e1, e2, q0, q1], m1, m2, rfl, m3, rfl, rfl, rfl⟩
    | 11, ho =>
      simp at ho; subst ho
      have e1 : a'.eval (.tmp 24) = exT 1 r := hvals 5 _ (by kernel_rfl) rfl
      show ∀ S, _ → ∀ t z g C, _ → _ → _ → _ → ∃ w'', (execOp a'.eval _).run _ w' = .ok .skip w'' ∧ _
      rintro S ⟨a1, c1, a2, c2, rfl, _⟩ t z g C hz hC hs (e2 : a'.eval (.tmp 6) = _)
      cases hz
      obtain ⟨u0, u1, u2, q0, q1, q2⟩ := cells3 hC hs
      have q3 := hC.free 0
      have q4 := hC.free 1
      have q5 := hC.free 2
      obtain ⟨m1, m2, m3⟩ := set3 hC hs (.int .i64 5) (.bool true) (.slice a2 2 c2)
      simp only [exT] at e1
      generalize a'.eval = ρ at *
      exact ⟨_, by simp [execOp, go_sem, e1, e2, q0, q1, q2, q3, q4, q5], m1, m2, rfl, m3, rfl, rfl, rfl⟩
    | 12, ho =>
      simp at ho; subst ho
      have e1 : a'.eval (.tmp 25) = exT 2 r := hvals 6 _ (by kernel_rfl) rfl
      show ∀ S, _ → (execOp a'.eval _).run _ w' = .ok (.value (exT 2 r)) w'
      rintro S ⟨a1, c1, a2, c2, rfl, _⟩
      simp only [exT] at e1
      generalize a'.eval = ρ at *
      simp [execOp, go_sem, e1, exT]
    | 13, ho =>
      simp at ho; subst ho
      have e1 : a'.eval (.tmp 26) = exT 3 r := hvals 7 _ (by kernel_rfl) rfl
      show ∀ S, _ → (execOp a'.eval _).run _ w' = .ok (.value (exT 3 r)) w'
      rintro S ⟨a1, c1, a2, c2, rfl, _⟩
      simp only [exT] at e1
      generalize a'.eval = ρ at *
      simp [execOp, go_sem, e1, exT]
    | i + 14, ho => simp at ho
  case fin =>
    rintro r gs S W hb ⟨a1, c1, a2, c2, rfl, s1, s2⟩ hS hbox hap
    obtain ⟨p6, p7, C, p8, p9⟩ := hbox 9 _ _ (by decide) rfl
    have p10 := p9 11 _ (by decide) rfl
    subst p10
    have KQ : Hid (Blk W (gs 9) #[.int .i64 5, .bool true, .slice a2 2 c2] 26) := p8
    simp only [putK, Kd.out, exT]
    obtain ⟨p, hp⟩ : ∃ p, p = gs 8 := ⟨_, rfl⟩
    obtain ⟨q, hq⟩ : ∃ q, q = gs 9 := ⟨_, rfl⟩
    rw [← hq] at KQ
    rw [← hp, ← hq]
    have BW : Hid (Below w.heap.size w W) := BV.out.trans (hb.mono BV.out.size)
    have SW : Hid (Strs W (.slice a2 2 c2) [⟨#[116]⟩, ⟨#[116]⟩]) := s1
    clear hp hq s1 s2 hS hbox hap p6 p7 p8 p9 hb BV SV KV k0 hw2
    go_wp2_with fail
    refine (hs.out 70000 5 true false true _ (by decide) (by decide)).mono ?_
    rintro r w3 ⟨rfl, hb3⟩
    go_wp2_with fail
    refine (hs.out 70002 5 false true false _ (by decide) (by decide)).mono ?_
    rintro r w4 ⟨rfl, hb4⟩
    go_wp2_with fail
    refine (hs.out 70003 6 true true false _ (by decide) (by decide)).mono ?_
    rintro r w5 ⟨rfl, hb5⟩
    have b5 : Below W.heap.size W w5 := Below.on (Below.on hb3 hb4) hb5
    have KQ5 : Hid (Blk w5 q #[.int .i64 5, .bool true, .slice a2 2 c2] 26) := KQ.out.below b5 KQ.out.lt
    have SW5 : Hid (Strs w5 (.slice a2 2 c2) [⟨#[116]⟩, ⟨#[116]⟩]) := SW.out.below b5
    have BW5 : Hid (Below w.heap.size w w5) := BW.out.trans (b5.mono BW.out.size)
    clear hb3 hb4 hb5 b5 KQ SW BW
    go_wp2_with fail
    refine (hal.out _ _ (Sls.of_owns (base := w5.heap.size) (World.ownsRow_lit w5 ((fx0.cells ++ fx2.cells) ++ fx3.cells) 3 (Nat.le_refl _) (by unfold maxLen; omega) rfl))).mono ?_
    rintro r w6 ⟨b, off, c, pv, rfl, h1, h2, h3, hb6⟩
    have b6 : Below w5.heap.size w5 w6 := ((Below.refl _ w5).alloc (Nat.le_refl _) _).trans (hb6.mono (by simp))
    have KQ6 : Hid (Blk w6 q #[.int .i64 5, .bool true, .slice a2 2 c2] 26) := KQ5.out.below b6 KQ5.out.lt
    have SW6 : Hid (Strs w6 (.slice a2 2 c2) [⟨#[116]⟩, ⟨#[116]⟩]) := SW5.out.below b6
    have BW6 : Hid (Below w.heap.size w w6) := BW5.out.trans (b6.mono BW5.out.size)
    obtain ⟨k0, k1, k2⟩ := KQ6.out.three
    have hbl : b < w6.heap.size := block_lt_of_cell h1
    clear hb6 b6 KQ5 SW5 BW5
    go_wp2_with fail
    refine (hck.out _ a2 c2 SW6.out).mono ?_
    rintro r w7 ⟨rfl, hb7⟩
    have KQ7 := KQ6.out.below hb7 KQ6.out.lt
    obtain ⟨m0, m1, m2⟩ := KQ7.three
    have n1 := (hb7.cell (p := ⟨b, off + 1, none⟩) hbl).trans h2
    have B7 : Hid (Below w.heap.size w w7) := BW6.out.trans (hb7.mono BW6.out.size)
    clear hb7 KQ6 SW6 BW6 KQ7 k0 k1 k2 h1 h2 h3
    go_wp2
    go_ret
    exact ⟨rfl, B7.out⟩

end Go.Proofs.Ytnpaejknoipicaf
