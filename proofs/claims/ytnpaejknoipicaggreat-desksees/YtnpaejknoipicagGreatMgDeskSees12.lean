/-
  A region that draws its order, with guards, one call that matters, reads and quiet calls beside it, and boxes: RegMain's law, with guards.
-/
import Derived.Test.YtnpaejknoipicagGreatMgDeskSees11
import Derived.Test.YtnpaejknoipicagGreatMgDeskSees9
import Derived.Test.YtnpaejknoipicagGreatMgDeskSees7
import Derived.Deep.QuietTactic
import Derived.BigQuiet
import Derived.Deep.RegionWith
import Derived.BigRegion
import Derived.Lib.QuietBelow
import Derived.Test.YtnpaejknoipicagGreatMgDeskSees4
import Derived.Test.YtnpaejknoipicagGreatMgDeskSees10
import Derived.Test.YtnpaejknoipicagGreatMgDeskSees8
import Derived.Deep.DeepCutAuto

namespace Go.Proofs.YtnpaejknoipicagGreat
open Go.RowKit

set_option maxHeartbeats 4000000 in
set_option maxRecDepth 100000 in
theorem feedFn_any (S : Nat → Prop) (M sb : Nat) (t : Tr) (s : List UInt8) (w : World) (hsb : Blk w sb #[.string (ba s)] 9) (hT : TkB S M w t (0 : Nat)) (hk : t.chk = 0) (hS : ∀ g, w.heap.size ≤ g → S g) :
    Calls Tryz.prog 62 #[.pointer (some ⟨M, 0, none⟩), .pointer (some ⟨sb, 0, none⟩)] w fun e w' => e = .returned (.int .i64 (feedR t s).2.2) ∧ ((feedR t s).2.2 = 0 → TkB S M w' (feedR t s).1 ((feedR t s).2.1 : Nat)) ∧ Kept [M] w w' := by
  obtain ⟨h1, h2, h3, h4, _⟩ := Tr.chk_zero.1 hk
  obtain ⟨R, hR⟩ : ∃ R, R = feedR t s := ⟨_, rfl⟩
  have HF : Hid (Calls Tryz.prog 63 #[.pointer (some ⟨M, 0, none⟩), .string (ba s)] w fun e w' => e = .returned (.int .i64 R.2.2) ∧ Hid (R.2.2 = 0 → TkB S M w' R.1 (R.2.1 : Nat)) ∧ Hid (Kept [M] w w')) := by rw [hR]; exact tkFeed_any S M t s w hT h1 h2 ⟨h3, h4⟩ hS
  rw [← hR]
  have c0 := hsb.one
  clear h1 h2 h3 h4 hk hR hT hS hsb
  go_enter Tryz.func62, Tryz.ntmps62
  go_wp2_with fail
  refine HF.out.mono ?_
  rintro e w1 ⟨rfl, a1, a2⟩
  go_wp2
  go_ret
  exact ⟨rfl, a1.out, a2.out⟩

/-- the result's box, written with a track of zeros -/
theorem zero_out {w : World} {A : Nat} {t : TypeId} (h : Blk w A #[.int .i64 0, .int .i64 0, .slice none 0 0, .slice none 0 0, .int .i64 0, .slice none 0 0, .slice none 0 0] t) :
    Blk (((((((w.setCell ⟨A, 0, none⟩ (.int .i64 0)).setCell ⟨A, 1, none⟩ (.int .i64 0)).setCell ⟨A, 2, none⟩ (.slice none 0 0)).setCell ⟨A, 3, none⟩ (.slice none 0 0)).setCell ⟨A, 4, none⟩ (.int .i64 0)).setCell ⟨A, 5, none⟩ (.slice none 0 0)).setCell ⟨A, 6, none⟩ (.slice none 0 0)) A #[.int .i64 0, .int .i64 0, .slice none 0 0, .slice none 0 0, .int .i64 0, .slice none 0 0, .slice none 0 0] t := seven_out h _ _ _ _ _ _ _
theorem seven_below {B A : Nat} {w V : World} (h : Below B w V) (hA : B ≤ A) (x0 x1 x2 x3 x4 x5 x6 : Value) : Below B w (((((((V.setCell ⟨A, 0, none⟩ x0).setCell ⟨A, 1, none⟩ x1).setCell ⟨A, 2, none⟩ x2).setCell ⟨A, 3, none⟩ x3).setCell ⟨A, 4, none⟩ x4).setCell ⟨A, 5, none⟩ x5).setCell ⟨A, 6, none⟩ x6) :=
  ((((((h.setCell (by exact hA) _).setCell (by exact hA) _).setCell (by exact hA) _).setCell (by exact hA) _).setCell (by exact hA) _).setCell (by exact hA) _).setCell (by exact hA) _
theorem seven_same {S : Nat → Prop} {A : Nat} {V : World} (hA : ¬ S A) (x0 x1 x2 x3 x4 x5 x6 : Value) : SameOn S V (((((((V.setCell ⟨A, 0, none⟩ x0).setCell ⟨A, 1, none⟩ x1).setCell ⟨A, 2, none⟩ x2).setCell ⟨A, 3, none⟩ x3).setCell ⟨A, 4, none⟩ x4).setCell ⟨A, 5, none⟩ x5).setCell ⟨A, 6, none⟩ x6) := by
  refine ⟨by simp, fun g _ hg => ?_⟩
  have hne : g ≠ A := fun e => hA (e ▸ hg)
  iterate 6 refine (Below.heap_setCell _ _ _ _ (by exact hne)).trans ?_
  exact Below.heap_setCell _ _ _ _ (by exact hne)

set_option maxHeartbeats 16000000 in
set_option maxRecDepth 100000 in
theorem trkChangeF_any (t : Tr) (s : List UInt8) (sb : Nat) (hv bv gv ov : Value) (w : World) (hr : TrIn (fun g => g < w.heap.size) w hv bv gv ov t) (hsb : Blk w sb #[.string (ba s)] 9) :
    Calls Tryz.prog 61 #[.agg #[.int .i64 t.last, .int .i64 t.next, hv, bv, .int .i64 t.first, gv, ov], .func (.func 62) #[] #[.pointer (some ⟨sb, 0, none⟩)]] w fun e w' => ∃ hv' bv' gv' ov', e = .returned (.tuple #[.agg #[.int .i64 (feedA t s).1.last, .int .i64 (feedA t s).1.next, hv', bv', .int .i64 (feedA t s).1.first, gv', ov'], .int .i64 (feedA t s).2.1, .int .i64 (feedA t s).2.2]) ∧ TrIn (fun g => w.heap.size ≤ g) w' hv' bv' gv' ov' (feedA t s).1 ∧ Below w.heap.size w w' := by
  obtain ⟨ha, hc, ba', bc, ga, gc, oa, oc, eh, eb, eg, eo⟩ := hr.slices
  obtain ⟨RT, RC, RE, hRR⟩ : ∃ RT RC RE, (RT, RC, RE) = feedR t s := ⟨_, _, _, rfl⟩
  obtain ⟨A, hA⟩ : ∃ A, A = feedA t s := ⟨_, rfl⟩
  obtain ⟨CK, hCK⟩ : ∃ c, c = t.chk := ⟨_, rfl⟩
  have HA : Hid (A = if CK = 0 then (RT, RC, RE) else (Tr.zero, 0, CK)) := by show A = _; rw [hA, hCK, hRR]; rfl
  have HHOW : Hid (CK = 0 → ∀ W M, Below w.heap.size w W → w.heap.size + 2 ≤ W.heap.size → TkB (fun g => w.heap.size + 2 ≤ g) M W t (0 : Nat) → Calls Tryz.prog 62 #[.pointer (some ⟨M, 0, none⟩), .pointer (some ⟨sb, 0, none⟩)] W fun e w' => e = .returned (.int .i64 RE) ∧ Hid (RE = 0 → TkB (fun g => w.heap.size + 2 ≤ g) M w' RT (RC : Nat)) ∧ Hid (Kept [M] W w')) := fun h W M hW hM hT => by
    refine (feedFn_any _ M sb t s W (hsb.below hW hsb.lt) hT (hCK ▸ h) (fun g hg => Nat.le_trans hM hg)).mono ?_
    rintro e w' ⟨rfl, a1, a2⟩
    rw [← hRR] at a1 ⊢
    exact ⟨rfl, a1, a2⟩
  have hbad : Hid (¬ RE = 0 → CK = 0 → RT = Tr.zero ∧ RC = 0) := fun h1 h2 => by
    have q := feedA_bad (t := t) (s := s)
    rw [← hA, HA.out, if_pos h2] at q
    exact q h1
  rw [← hA]
  clear hA
  have HCHK : Hid (∀ U C, ClT w U C hv bv gv ov t → Calls Tryz.prog 59 #[.agg #[.int .i64 t.last, .int .i64 t.next, hv, bv, .int .i64 t.first, gv, ov]] U fun e w' => e = .returned (.int .i64 CK) ∧ Below U.heap.size U w') := fun U C hU => by
    rw [hCK]; exact trkCheck_any _ t hv bv gv ov U hU.2.2.2.2
  have HCL : Hid (CK = 0 → ∀ U C, ClT w U C hv bv gv ov t → Calls Tryz.prog 30 #[.agg #[.int .i64 t.last, .int .i64 t.next, hv, bv, .int .i64 t.first, gv, ov]] U fun e w' => ∃ a1 n1 c1 a2 n2 c2 a3 n3 c3 a4 n4 c4, e = .returned (.agg #[.int .i64 t.last, .int .i64 t.next, .slice a1 n1 c1, .slice a2 n2 c2, .int .i64 t.first, .slice a3 n3 c3, .slice a4 n4 c4]) ∧ Hid (TrIn (fun g => w.heap.size + 2 ≤ g) w' (.slice a1 n1 c1) (.slice a2 n2 c2) (.slice a3 n3 c3) (.slice a4 n4 c4) t) ∧ Below U.heap.size U w') := fun h U C hU => by
    refine (cloneTrack_any _ t hv bv gv ov U hU.2.2.2.2 (hCK ▸ h)).mono ?_
    rintro e w' ⟨x1, x2, x3, x4, rfl, q, b⟩
    obtain ⟨a1, c1, a2, c2, a3, c3, a4, c4, e1, e2, e3, e4⟩ := q.slices
    subst e1 e2 e3 e4
    exact ⟨_, _, _, _, _, _, _, _, _, _, _, _, rfl, q.mono fun g _ hg => Nat.le_trans hU.2.2.2.1 hg, b⟩
  obtain ⟨nh, hnh⟩ : ∃ n, n = t.h.length := ⟨_, rfl⟩
  obtain ⟨no, hno⟩ : ∃ n, n = t.o.length := ⟨_, rfl⟩
  obtain ⟨ng, hng⟩ : ∃ n, n = t.L.length := ⟨_, rfl⟩
  obtain ⟨nO, hnO⟩ : ∃ n, n = t.O.length := ⟨_, rfl⟩
  rw [← hnh] at eh
  rw [← hno] at eb
  rw [← hng] at eg
  rw [← hnO] at eo
  obtain ⟨last, hla⟩ : ∃ x, x = t.last := ⟨_, rfl⟩
  obtain ⟨next, hne⟩ : ∃ x, x = t.next := ⟨_, rfl⟩
  obtain ⟨first, hfi⟩ : ∃ x, x = t.first := ⟨_, rfl⟩
  have HTK : Hid (∀ W M a1 n1 c1 a2 n2 c2 a3 n3 c3 a4 n4 c4, Blk W M #[.int .i64 last, .int .i64 next, .slice a1 n1 c1, .slice a2 n2 c2, .int .i64 first, .slice a3 n3 c3, .slice a4 n4 c4, .int .i64 0] 155 → TrIn (fun g => w.heap.size + 2 ≤ g ∧ g ≠ M) W (.slice a1 n1 c1) (.slice a2 n2 c2) (.slice a3 n3 c3) (.slice a4 n4 c4) t → TkB (fun g => w.heap.size + 2 ≤ g) M W t (0 : Nat)) := fun W M a1 n1 c1 a2 n2 c2 a3 n3 c3 a4 n4 c4 h1 h3 => by
    rw [hla, hne, hfi] at h1
    exact ⟨_, _, _, _, h1, h3⟩
  rw [← hla, ← hne, ← hfi] at HCHK HCL ⊢
  have HI : Hid (ClT w ((w.alloc (.cells #[.int .i64 last, .int .i64 next, hv, bv, .int .i64 first, gv, ov] 34)).alloc (.cells #[.int .i64 0, .int .i64 0, .slice none 0 0, .slice none 0 0, .int .i64 0, .slice none 0 0, .slice none 0 0] 34)) #[.int .i64 last, .int .i64 next, hv, bv, .int .i64 first, gv, ov] hv bv gv ov t) := by
    have b1 : Below w.heap.size w (w.alloc (.cells #[.int .i64 last, .int .i64 next, hv, bv, .int .i64 first, gv, ov] 34)) := (Below.refl _ _).alloc (Nat.le_refl _) _
    have k1 := Blk.new w #[.int .i64 last, .int .i64 next, hv, bv, .int .i64 first, gv, ov] 34
    have k2 := Blk.new (w.alloc (.cells #[.int .i64 last, .int .i64 next, hv, bv, .int .i64 first, gv, ov] 34)) #[.int .i64 0, .int .i64 0, .slice none 0 0, .slice none 0 0, .int .i64 0, .slice none 0 0, .slice none 0 0] 34
    have b2 : Below w.heap.size w ((w.alloc (.cells #[.int .i64 last, .int .i64 next, hv, bv, .int .i64 first, gv, ov] 34)).alloc (.cells #[.int .i64 0, .int .i64 0, .slice none 0 0, .slice none 0 0, .int .i64 0, .slice none 0 0, .slice none 0 0] 34)) := b1.alloc (by simp) _
    exact ⟨b2, k1.below ((Below.refl _ _).alloc (Nat.le_refl _) _) k1.lt, by simpa using k2, by simp, hr.below b2⟩
  clear hla hne hfi hr hnh hno hng hnO hsb hRR hCK
  subst eh eb eg eo
  go_enter Tryz.func61, Tryz.ntmps61
  obtain ⟨W, hW⟩ : ∃ W, W = (w.alloc (.cells #[.int .i64 last, .int .i64 next, .slice ha nh hc, .slice ba' no bc, .int .i64 first, .slice ga ng gc, .slice oa nO oc] 34)).alloc (.cells #[.int .i64 0, .int .i64 0, .slice none 0 0, .slice none 0 0, .int .i64 0, .slice none 0 0, .slice none 0 0] 34) := ⟨_, rfl⟩
  rw [← hW] at HI
  go_wp2_with fail
  rw [← hW]
  clear hW
  refine (HCHK.out W _ HI.out).mono ?_
  rintro e w1 ⟨rfl, b1⟩
  have HI1 : Hid (ClT w w1 #[.int .i64 last, .int .i64 next, .slice ha nh hc, .slice ba' no bc, .int .i64 first, .slice ga ng gc, .slice oa nO oc] (.slice ha nh hc) (.slice ba' no bc) (.slice ga ng gc) (.slice oa nO oc) t) := HI.out.go b1
  clear b1 HI HCHK W
  obtain ⟨y0, y1, y2, y3, y4, y5, y6⟩ := HI1.out.2.1.sevenc
  by_cases h1 : CK = 0
  case neg =>
    have KB : Hid (Blk w1 (w.heap.size + 1) #[.int .i64 0, .int .i64 0, .slice none 0 0, .slice none 0 0, .int .i64 0, .slice none 0 0, .slice none 0 0] 34) := HI1.out.2.2.1
    have BW : Hid (Below w.heap.size w w1) := HI1.out.1
    have HAe : Hid (A = (Tr.zero, 0, CK)) := by show A = _; rw [HA.out, if_neg h1]
    obtain ⟨z0, z1, z2, z3, z4, z5, z6⟩ := KB.out.sevenc
    have g0 := KB.out.free 0
    have g1 := KB.out.free 1
    have g2 := KB.out.free 2
    have g3 := KB.out.free 3
    have g4 := KB.out.free 4
    have g5 := KB.out.free 5
    have g6 := KB.out.free 6
    clear HHOW hbad HCL HTK HA HI1 y0 y1 y2 y3 y4 y5 y6
    go_wp2_with fail
    clear z0 z1 z2 z3 z4 z5 z6 g0 g1 g2 g3 g4 g5 g6
    have KZ := zero_out KB.out
    have BZ := seven_below BW.out (Nat.le_succ w.heap.size) (.int .i64 0) (.int .i64 0) (.slice none 0 0) (.slice none 0 0) (.int .i64 0) (.slice none 0 0) (.slice none 0 0)
    clear KB BW
    obtain ⟨Z, hZ⟩ : ∃ Z, Z = (((((((w1.setCell ⟨w.heap.size + 1, 0, none⟩ (.int .i64 0)).setCell ⟨w.heap.size + 1, 1, none⟩ (.int .i64 0)).setCell ⟨w.heap.size + 1, 2, none⟩ (.slice none 0 0)).setCell ⟨w.heap.size + 1, 3, none⟩ (.slice none 0 0)).setCell ⟨w.heap.size + 1, 4, none⟩ (.int .i64 0)).setCell ⟨w.heap.size + 1, 5, none⟩ (.slice none 0 0)).setCell ⟨w.heap.size + 1, 6, none⟩ (.slice none 0 0)) := ⟨_, rfl⟩
    rw [← hZ] at KZ BZ ⊢
    clear hZ
    obtain ⟨q0, q1, q2, q3, q4, q5, q6⟩ := KZ.sevenc
    exact bodyPost_ret (v := .tuple #[.agg #[.int .i64 0, .int .i64 0, .slice none 0 0, .slice none 0 0, .int .i64 0, .slice none 0 0, .slice none 0 0], .int .i64 0, .int .i64 CK]) (by simp [results, Tryz.results61, go_sem, q0, q1, q2, q3, q4, q5, q6]) rfl ⟨_, _, _, _, by rw [HAe.out]; rfl, by rw [HAe.out]; exact TrIn.zero _ _, BZ⟩
  subst h1
  have HA2 : Hid (A = (RT, RC, RE)) := by show A = _; rw [HA.out, if_pos rfl]
  clear HA
  go_wp2_with fail
  refine (HCL.out (by first | rfl | trivial) w1 _ HI1.out).mono ?_
  rintro e w2 ⟨a1, n1, c1, a2, n2, c2, a3, n3, c3, a4, n4, c4, rfl, HR2, b1⟩
  have HI2 : Hid (ClT w w2 #[.int .i64 last, .int .i64 next, .slice ha nh hc, .slice ba' no bc, .int .i64 first, .slice ga ng gc, .slice oa nO oc] (.slice ha nh hc) (.slice ba' no bc) (.slice ga ng gc) (.slice oa nO oc) t) := HI1.out.go b1
  clear b1 HI1 HCL y0 y1 y2 y3 y4 y5 y6
  obtain ⟨W3, hW3⟩ : ∃ W, W = w2.alloc (.cells #[.int .i64 last, .int .i64 next, .slice a1 n1 c1, .slice a2 n2 c2, .int .i64 first, .slice a3 n3 c3, .slice a4 n4 c4, .int .i64 0] 155) := ⟨_, rfl⟩
  have hsz2 : w.heap.size + 2 ≤ w2.heap.size := HI2.out.2.2.2.1
  have HTK3 : Hid (TkB (fun g => w.heap.size + 2 ≤ g) w2.heap.size W3 t (0 : Nat)) := HTK.out W3 w2.heap.size a1 n1 c1 a2 n2 c2 a3 n3 c3 a4 n4 c4 (Blk.newE hW3) (by rw [hW3]; exact HR2.out.to (SameOn.alloc _) (fun g hg h => ⟨by omega, by omega⟩))
  have KB3 : Hid (Blk W3 (w.heap.size + 1) #[.int .i64 0, .int .i64 0, .slice none 0 0, .slice none 0 0, .int .i64 0, .slice none 0 0, .slice none 0 0] 34) := by rw [hW3]; exact HI2.out.2.2.1.below ((Below.refl _ _).alloc (Nat.le_refl _) _) HI2.out.2.2.1.lt
  have BW3 : Hid (Below w.heap.size w W3) := by rw [hW3]; exact HI2.out.1.alloc HI2.out.1.size _
  have hsz3 : w.heap.size + 2 ≤ W3.heap.size := by rw [hW3]; simp; omega
  clear HTK HR2 HI2
  go_wp2_with fail
  rw [← hW3]
  clear hW3
  refine (HHOW.out (by first | rfl | trivial) W3 w2.heap.size BW3.out hsz3 HTK3.out).mono ?_
  rintro e w4 ⟨rfl, HT4, HK4⟩
  have KB : Hid (Blk w4 (w.heap.size + 1) #[.int .i64 0, .int .i64 0, .slice none 0 0, .slice none 0 0, .int .i64 0, .slice none 0 0, .slice none 0 0] 34) := KB3.out.kept HK4.out (by simp; omega)
  have BW : Hid (Below w.heap.size w w4) := BW3.out.trans (HK4.out.toBelow BW3.out.size (fun k hk => by simp at hk; omega))
  clear HHOW HTK3 KB3 BW3 HK4
  by_cases h1 : RE = 0
  case neg =>
    obtain ⟨q1, q2⟩ := hbad.out h1 (by first | rfl | trivial)
    have HAe : Hid (A = (Tr.zero, 0, RE)) := by show A = _; rw [HA2.out, q1, q2]
    clear q1 q2 HA2 hbad HT4
    obtain ⟨z0, z1, z2, z3, z4, z5, z6⟩ := KB.out.sevenc
    have g0 := KB.out.free 0
    have g1 := KB.out.free 1
    have g2 := KB.out.free 2
    have g3 := KB.out.free 3
    have g4 := KB.out.free 4
    have g5 := KB.out.free 5
    have g6 := KB.out.free 6
    go_wp2_with fail
    clear z0 z1 z2 z3 z4 z5 z6 g0 g1 g2 g3 g4 g5 g6
    have KZ := zero_out KB.out
    have BZ := seven_below BW.out (Nat.le_succ w.heap.size) (.int .i64 0) (.int .i64 0) (.slice none 0 0) (.slice none 0 0) (.int .i64 0) (.slice none 0 0) (.slice none 0 0)
    clear KB BW
    obtain ⟨Z, hZ⟩ : ∃ Z, Z = (((((((w4.setCell ⟨w.heap.size + 1, 0, none⟩ (.int .i64 0)).setCell ⟨w.heap.size + 1, 1, none⟩ (.int .i64 0)).setCell ⟨w.heap.size + 1, 2, none⟩ (.slice none 0 0)).setCell ⟨w.heap.size + 1, 3, none⟩ (.slice none 0 0)).setCell ⟨w.heap.size + 1, 4, none⟩ (.int .i64 0)).setCell ⟨w.heap.size + 1, 5, none⟩ (.slice none 0 0)).setCell ⟨w.heap.size + 1, 6, none⟩ (.slice none 0 0)) := ⟨_, rfl⟩
    rw [← hZ] at KZ BZ ⊢
    clear hZ
    obtain ⟨q0, q1, q2, q3, q4, q5, q6⟩ := KZ.sevenc
    exact bodyPost_ret (v := .tuple #[.agg #[.int .i64 0, .int .i64 0, .slice none 0 0, .slice none 0 0, .int .i64 0, .slice none 0 0, .slice none 0 0], .int .i64 0, .int .i64 RE]) (by simp [results, Tryz.results61, go_sem, q0, q1, q2, q3, q4, q5, q6]) rfl ⟨_, _, _, _, by rw [HAe.out]; rfl, by rw [HAe.out]; exact TrIn.zero _ _, BZ⟩
  clear hbad
  obtain ⟨v1, v2, v3, v4, K8, TR⟩ := HT4.out h1
  subst h1
  clear HT4
  obtain ⟨b1, d1, b2, d2, b3, d3, b4, d4, e1, e2, e3, e4⟩ := TR.slices
  obtain ⟨m1, hm1⟩ : ∃ n, n = RT.h.length := ⟨_, rfl⟩
  obtain ⟨m2, hm2⟩ : ∃ n, n = RT.o.length := ⟨_, rfl⟩
  obtain ⟨m3, hm3⟩ : ∃ n, n = RT.L.length := ⟨_, rfl⟩
  obtain ⟨m4, hm4⟩ : ∃ n, n = RT.O.length := ⟨_, rfl⟩
  rw [← hm1] at e1
  rw [← hm2] at e2
  rw [← hm3] at e3
  rw [← hm4] at e4
  subst e1 e2 e3 e4
  obtain ⟨la2, hl2⟩ : ∃ x, x = RT.last := ⟨_, rfl⟩
  obtain ⟨ne2, hn2⟩ : ∃ x, x = RT.next := ⟨_, rfl⟩
  obtain ⟨fi2, hf2⟩ : ∃ x, x = RT.first := ⟨_, rfl⟩
  obtain ⟨rc, hrc⟩ : ∃ x, x = (RC : Int) := ⟨_, rfl⟩
  rw [← hl2, ← hn2, ← hf2, ← hrc] at K8
  obtain ⟨V, hV⟩ : ∃ V, V = { w4 with drawn := w4.drawn + 1 } := ⟨_, rfl⟩
  obtain ⟨Z, hZ⟩ : ∃ Z, Z = (((((((V.setCell ⟨w.heap.size + 1, 0, none⟩ (.int .i64 la2)).setCell ⟨w.heap.size + 1, 1, none⟩ (.int .i64 ne2)).setCell ⟨w.heap.size + 1, 2, none⟩ (.slice b1 m1 d1)).setCell ⟨w.heap.size + 1, 3, none⟩ (.slice b2 m2 d2)).setCell ⟨w.heap.size + 1, 4, none⟩ (.int .i64 fi2)).setCell ⟨w.heap.size + 1, 5, none⟩ (.slice b3 m3 d3)).setCell ⟨w.heap.size + 1, 6, none⟩ (.slice b4 m4 d4)) := ⟨_, rfl⟩
  have hne : w2.heap.size ≠ w.heap.size + 1 := by omega
  have KMV : Hid (Blk V w2.heap.size #[.int .i64 la2, .int .i64 ne2, .slice b1 m1 d1, .slice b2 m2 d2, .int .i64 fi2, .slice b3 m3 d3, .slice b4 m4 d4, .int .i64 rc] 155) := by rw [hV]; exact K8.drew
  have KBV : Hid (Blk V (w.heap.size + 1) #[.int .i64 0, .int .i64 0, .slice none 0 0, .slice none 0 0, .int .i64 0, .slice none 0 0, .slice none 0 0] 34) := by rw [hV]; exact KB.out.drew
  have hsame : SameOn (fun g => g ≠ w.heap.size + 1) V Z := by rw [hZ]; exact seven_same (by simp) _ _ _ _ _ _ _
  have KMZ : Hid (Blk Z w2.heap.size #[.int .i64 la2, .int .i64 ne2, .slice b1 m1 d1, .slice b2 m2 d2, .int .i64 fi2, .slice b3 m3 d3, .slice b4 m4 d4, .int .i64 rc] 155) := (hsame.2 _ KMV.out.lt hne).trans KMV.out
  have KBZ : Hid (Blk Z (w.heap.size + 1) #[.int .i64 la2, .int .i64 ne2, .slice b1 m1 d1, .slice b2 m2 d2, .int .i64 fi2, .slice b3 m3 d3, .slice b4 m4 d4] 34) := by rw [hZ]; exact seven_out KBV.out _ _ _ _ _ _ _
  have HBZ : Hid (Below w.heap.size w Z) := by rw [hZ]; exact seven_below (by rw [hV]; exact BW.out.drew) (Nat.le_succ _) _ _ _ _ _ _ _
  have HEQ : Hid (Ending.returned (Value.tuple #[.agg #[.int .i64 la2, .int .i64 ne2, .slice b1 m1 d1, .slice b2 m2 d2, .int .i64 fi2, .slice b3 m3 d3, .slice b4 m4 d4], .int .i64 rc, .int .i64 0]) = Ending.returned (Value.tuple #[.agg #[.int .i64 A.1.last, .int .i64 A.1.next, .slice b1 m1 d1, .slice b2 m2 d2, .int .i64 A.1.first, .slice b3 m3 d3, .slice b4 m4 d4], .int .i64 A.2.1, .int .i64 A.2.2])) := by rw [hl2, hn2, hf2, hrc]; show _ = _; rw [HA2.out]
  have HTR : Hid (TrIn (fun g => w.heap.size ≤ g) Z (.slice b1 m1 d1) (.slice b2 m2 d2) (.slice b3 m3 d3) (.slice b4 m4 d4) A.1) := by
    show TrIn _ _ _ _ _ _ _
    rw [HA2.out]
    have q : TrIn (fun g => w.heap.size + 2 ≤ g ∧ g ≠ w2.heap.size) V (.slice b1 m1 d1) (.slice b2 m2 d2) (.slice b3 m3 d3) (.slice b4 m4 d4) RT := by rw [hV]; exact TR.to ⟨Nat.le_refl _, fun g _ _ => rfl⟩ (fun g _ h => h)
    exact q.to (hsame.mono fun g hg => by have := hg.1; omega) (fun g _ hg => by have := hg.1; omega)
  clear HA2 hl2 hn2 hf2 hrc hm1 hm2 hm3 hm4 K8 TR hsame
  go_wp2_with fail
  refine region_chainG (by kernel_rfl) (by kernel_rfl) [.quiet (.pointer (some ⟨w2.heap.size, 0, none⟩)) 3, .quiet (.agg #[.int .i64 la2, .int .i64 ne2, .slice b1 m1 d1, .slice b2 m2 d2, .int .i64 fi2, .slice b3 m3 d3, .slice b4 m4 d4]) 3, .quiet (.pointer (some ⟨w2.heap.size, 7, none⟩)) 3, .quiet (.int .i64 rc) 3, .step 0, .step 1, .step 2] [4, 5, 6] (by kernel_rfl)
    (fun s r w' => match s with
      | 0 => w' = V
      | 1 => w' = Z
      | 2 => w' = Z ∧ r 1 = .int .i64 rc
      | _ => w' = Z ∧ r 1 = .int .i64 rc ∧ r 2 = .int .i64 0
      ) hV.symm ?step ?fin
  case step =>
    intro i o ho a' w' s r hI hfree hvals
    have kx : Blk w' w2.heap.size #[.int .i64 la2, .int .i64 ne2, .slice b1 m1 d1, .slice b2 m2 d2, .int .i64 fi2, .slice b3 m3 d3, .slice b4 m4 d4, .int .i64 rc] 155 := by
      match s, hI with
      | 0, hI => rw [show w' = V from hI]; exact KMV.out
      | 1, hI => rw [show w' = Z from hI]; exact KMZ.out
      | 2, hI => rw [hI.1]; exact KMZ.out
      | n + 3, hI => rw [hI.1]; exact KMZ.out
    obtain ⟨a0, a1, a2, a3, a4, a5, a6, a7⟩ := kx.eight
    match i, ho with
    | 0, ho =>
      simp at ho; subst ho
      have e8 : a'.eval (.tmp 8) = .pointer (some ⟨w2.heap.size, 0, none⟩) := (hfree 8 (by kernel_rfl)).trans rfl
      show s ≤ 3 → _
      intro hs
      refine .inl ⟨rfl, ?_⟩
      generalize a'.eval = ρ at *
      simp [execOp, go_sem, e8]
    | 1, ho =>
      simp at ho; subst ho
      have e25 : a'.eval (.tmp 25) = .pointer (some ⟨w2.heap.size, 0, none⟩) := hvals 0 _ _ (by kernel_rfl) rfl rfl
      show s ≤ 3 → _
      intro hs
      refine .inl ⟨rfl, ?_⟩
      generalize a'.eval = ρ at *
      simp [execOp, go_sem, e25, a0, a1, a2, a3, a4, a5, a6]
    | 2, ho =>
      simp at ho; subst ho
      have e8 : a'.eval (.tmp 8) = .pointer (some ⟨w2.heap.size, 0, none⟩) := (hfree 8 (by kernel_rfl)).trans rfl
      show s ≤ 3 → _
      intro hs
      refine .inl ⟨rfl, ?_⟩
      generalize a'.eval = ρ at *
      simp [execOp, go_sem, e8]
    | 3, ho =>
      simp at ho; subst ho
      have e27 : a'.eval (.tmp 27) = .pointer (some ⟨w2.heap.size, 7, none⟩) := hvals 2 _ _ (by kernel_rfl) rfl rfl
      show s ≤ 3 → _
      intro hs
      refine .inl ⟨rfl, ?_⟩
      generalize a'.eval = ρ at *
      simp [execOp, go_sem, e27, a7]
    | 4, ho =>
      simp at ho; subst ho
      have e4 : a'.eval (.tmp 4) = .pointer (some ⟨w.heap.size + 1, 0, none⟩) := (hfree 4 (by kernel_rfl)).trans rfl
      have e26 : a'.eval (.tmp 26) = .agg #[.int .i64 la2, .int .i64 ne2, .slice b1 m1 d1, .slice b2 m2 d2, .int .i64 fi2, .slice b3 m3 d3, .slice b4 m4 d4] := hvals 1 _ _ (by kernel_rfl) rfl rfl
      show s = 0 → _ ∧ Oper.wp _ _ _ _ _ _
      intro hs
      subst hs
      refine ⟨rfl, ?_⟩
      have hw : w' = V := hI
      obtain ⟨t0, t1, t2, t3, t4, t5, t6⟩ := KBV.out.sevenc
      have fr := KBV.out.free
      refine oper_wp_skip (w' := Z) ?_ ⟨_, rfl, rfl⟩
      generalize a'.eval = ρ at *
      rw [hw, hZ]
      simp [execOp, go_sem, e4, e26, t0, t1, t2, t3, t4, t5, t6, fr]
    | 5, ho =>
      simp at ho; subst ho
      have e28 : a'.eval (.tmp 28) = .int .i64 rc := hvals 3 _ _ (by kernel_rfl) rfl rfl
      show s = 1 → _ ∧ Oper.wp _ _ _ _ _ _
      intro hs
      subst hs
      refine ⟨rfl, ?_⟩
      refine oper_wp_ok (v := .int .i64 rc) (w' := w') ?_ ⟨_, rfl, hI, updR_at _ _ _⟩
      generalize a'.eval = ρ at *
      simp [execOp, go_sem, e28]
    | 6, ho =>
      simp at ho; subst ho
      have ec0 : a'.eval (.const (.int .i64 0)) = .int .i64 0 := rfl
      show s = 2 → _ ∧ Oper.wp _ _ _ _ _ _
      intro hs
      subst hs
      refine ⟨rfl, ?_⟩
      obtain ⟨c0, c1⟩ := hI
      refine oper_wp_ok (v := .int .i64 0) (w' := w') ?_ ⟨_, rfl, c0, by rw [updR_ne (by omega)]; exact c1, updR_at _ _ _⟩
      generalize a'.eval = ρ at *
      simp [execOp, go_sem, ec0]
  case fin =>
    rintro r V2 ⟨d0, d1, d2⟩
    simp only [putC, Ck.out, d1, d2, Act.put, List.setIfInBounds_toArray, List.set_cons_succ, List.set_cons_zero]
    rw [d0]
    obtain ⟨u0, u1, u2, u3, u4, u5, u6⟩ := KBZ.out.sevenc
    clear d0 d1 d2 r V2 KMV KMZ KBV KBZ hV hZ V
    go_wp2_with fail
    exact bodyPost_ret (v := .tuple #[.agg #[.int .i64 la2, .int .i64 ne2, .slice b1 m1 d1, .slice b2 m2 d2, .int .i64 fi2, .slice b3 m3 d3, .slice b4 m4 d4], .int .i64 rc, .int .i64 0]) (by simp [results, Tryz.results61, go_sem, u0, u1, u2, u3, u4, u5, u6]) rfl ⟨_, _, _, _, HEQ.out, HTR.out, HBZ.out⟩

end Go.Proofs.YtnpaejknoipicagGreat

namespace Go.Proofs.YtnpaejknoipicagGreat
open Go.RowKit

end Go.Proofs.YtnpaejknoipicagGreat

namespace Go.Proofs.YtnpaejknoipicagGreat
open Go.RowKit

set_option maxHeartbeats 8000000 in
set_option maxRecDepth 100000 in
theorem trkFeed_any (S : Nat → Prop) (t : Tr) (s : List UInt8) (hv bv gv ov : Value) (w : World) (hr : TrIn S w hv bv gv ov t) :
    Calls Tryz.prog 23 #[.agg #[.int .i64 t.last, .int .i64 t.next, hv, bv, .int .i64 t.first, gv, ov], .string (ba s)] w fun e w' => ∃ hv' bv' gv' ov', e = .returned (.tuple #[.agg #[.int .i64 (feedA t s).1.last, .int .i64 (feedA t s).1.next, hv', bv', .int .i64 (feedA t s).1.first, gv', ov'], .int .i64 (feedA t s).2.1, .int .i64 (feedA t s).2.2]) ∧ TrIn (fun g => w.heap.size ≤ g) w' hv' bv' gv' ov' (feedA t s).1 ∧ Below w.heap.size w w' := by
  obtain ⟨ha, hc, ba', bc, ga, gc, oa, oc, eh, eb, eg, eo⟩ := hr.slices
  obtain ⟨A, hA⟩ : ∃ A, A = feedA t s := ⟨_, rfl⟩
  obtain ⟨N, hN⟩ : ∃ n, n = w.heap.size + 1 + 1 + 1 := ⟨_, rfl⟩
  have HC : Hid (∀ U, Below w.heap.size w U → N ≤ U.heap.size → Blk U (w.heap.size + 1) #[.string (ba s)] 9 → Calls Tryz.prog 61 #[.agg #[.int .i64 t.last, .int .i64 t.next, hv, bv, .int .i64 t.first, gv, ov], .func (.func 62) #[] #[.pointer (some ⟨w.heap.size + 1, 0, none⟩)]] U fun e w' => ∃ la2 ne2 b1 m1 d1 b2 m2 d2 fi2 b3 m3 d3 b4 m4 d4 rc re, e = .returned (.tuple #[.agg #[.int .i64 la2, .int .i64 ne2, .slice b1 m1 d1, .slice b2 m2 d2, .int .i64 fi2, .slice b3 m3 d3, .slice b4 m4 d4], .int .i64 rc, .int .i64 re]) ∧ Hid (la2 = A.1.last ∧ ne2 = A.1.next ∧ fi2 = A.1.first ∧ rc = (A.2.1 : Int) ∧ re = A.2.2 ∧ TrIn (fun g => N ≤ g) w' (.slice b1 m1 d1) (.slice b2 m2 d2) (.slice b3 m3 d3) (.slice b4 m4 d4) A.1) ∧ Below U.heap.size U w') := fun U hU hn hs => by
    refine (trkChangeF_any t s _ hv bv gv ov U ((hr.below hU).to (S' := fun g => g < U.heap.size) (SameOn.refl _ _) (fun g hg _ => hg)) hs).mono ?_
    rintro e w' ⟨x1, x2, x3, x4, rfl, q, b⟩
    rw [← hA] at q ⊢
    obtain ⟨a1, c1, a2, c2, a3, c3, a4, c4, e1, e2, e3, e4⟩ := q.slices
    subst e1 e2 e3 e4
    exact ⟨_, _, _, _, _, _, _, _, _, _, _, _, _, _, _, _, _, rfl, ⟨rfl, rfl, rfl, rfl, rfl, q.mono fun g _ hg => Nat.le_trans hn hg⟩, b⟩
  rw [← hA]
  obtain ⟨nh, hnh⟩ : ∃ n, n = t.h.length := ⟨_, rfl⟩
  obtain ⟨no, hno⟩ : ∃ n, n = t.o.length := ⟨_, rfl⟩
  obtain ⟨ng, hng⟩ : ∃ n, n = t.L.length := ⟨_, rfl⟩
  obtain ⟨nO, hnO⟩ : ∃ n, n = t.O.length := ⟨_, rfl⟩
  rw [← hnh] at eh
  rw [← hno] at eb
  rw [← hng] at eg
  rw [← hnO] at eo
  obtain ⟨last, hla⟩ : ∃ x, x = t.last := ⟨_, rfl⟩
  obtain ⟨next, hne⟩ : ∃ x, x = t.next := ⟨_, rfl⟩
  obtain ⟨first, hfi⟩ : ∃ x, x = t.first := ⟨_, rfl⟩
  rw [← hla, ← hne, ← hfi] at HC ⊢
  clear hla hne hfi hr hnh hno hng hnO hA
  subst eh eb eg eo
  obtain ⟨W, hW⟩ : ∃ W, W = ((w.alloc (.cells #[.int .i64 last, .int .i64 next, .slice ha nh hc, .slice ba' no bc, .int .i64 first, .slice ga ng gc, .slice oa nO oc] 34)).alloc (.cells #[.string (ba s)] 9)).alloc (.cells #[.int .i64 0, .int .i64 0, .slice none 0 0, .slice none 0 0, .int .i64 0, .slice none 0 0, .slice none 0 0] 34) := ⟨_, rfl⟩
  have BW : Hid (Below w.heap.size w W) := by
    rw [hW]; exact (((Below.refl _ _).alloc (Nat.le_refl _) _).alloc (by simp) _).alloc (by simp; omega) _
  have KB : Hid (Blk W (w.heap.size + 1 + 1) #[.int .i64 0, .int .i64 0, .slice none 0 0, .slice none 0 0, .int .i64 0, .slice none 0 0, .slice none 0 0] 34) := by
    have := Blk.new ((w.alloc (.cells #[.int .i64 last, .int .i64 next, .slice ha nh hc, .slice ba' no bc, .int .i64 first, .slice ga ng gc, .slice oa nO oc] 34)).alloc (.cells #[.string (ba s)] 9)) #[.int .i64 0, .int .i64 0, .slice none 0 0, .slice none 0 0, .int .i64 0, .slice none 0 0, .slice none 0 0] 34
    rw [hW]; simpa [Hid] using this
  have KS : Hid (Blk W (w.heap.size + 1) #[.string (ba s)] 9) := by
    have k := Blk.new (w.alloc (.cells #[.int .i64 last, .int .i64 next, .slice ha nh hc, .slice ba' no bc, .int .i64 first, .slice ga ng gc, .slice oa nO oc] 34)) #[.string (ba s)] 9
    have k2 := k.below ((Below.refl _ _).alloc (Nat.le_refl _) (.cells #[.int .i64 0, .int .i64 0, .slice none 0 0, .slice none 0 0, .int .i64 0, .slice none 0 0, .slice none 0 0] 34)) k.lt
    rw [hW]; simpa [Hid] using k2
  have hsz : N ≤ W.heap.size := by rw [hW, hN]; simp
  go_enter Tryz.func23, Tryz.ntmps23
  go_wp2_with fail
  rw [← hW]
  clear hW
  refine (HC.out W BW.out hsz KS.out).mono ?_
  rintro e w1 ⟨la2, ne2, b1, m1, d1, b2, m2, d2, fi2, b3, m3, d3, b4, m4, d4, rc, re, rfl, HR, hb⟩
  have KB1 : Hid (Blk w1 (w.heap.size + 1 + 1) #[.int .i64 0, .int .i64 0, .slice none 0 0, .slice none 0 0, .int .i64 0, .slice none 0 0, .slice none 0 0] 34) := KB.out.below hb KB.out.lt
  have BW1 : Hid (Below w.heap.size w w1) := BW.out.trans (hb.mono BW.out.size)
  clear hb KB BW HC hsz KS
  obtain ⟨z0, z1, z2, z3, z4, z5, z6⟩ := KB1.out.sevenc
  have g0 := KB1.out.free 0
  have g1 := KB1.out.free 1
  have g2 := KB1.out.free 2
  have g3 := KB1.out.free 3
  have g4 := KB1.out.free 4
  have g5 := KB1.out.free 5
  have g6 := KB1.out.free 6
  go_wp2_with fail
  clear z0 z1 z2 z3 z4 z5 z6 g0 g1 g2 g3 g4 g5 g6
  obtain ⟨Z, hZ⟩ : ∃ Z, Z = (((((((w1.setCell ⟨w.heap.size + 1 + 1, 0, none⟩ (.int .i64 la2)).setCell ⟨w.heap.size + 1 + 1, 1, none⟩ (.int .i64 ne2)).setCell ⟨w.heap.size + 1 + 1, 2, none⟩ (.slice b1 m1 d1)).setCell ⟨w.heap.size + 1 + 1, 3, none⟩ (.slice b2 m2 d2)).setCell ⟨w.heap.size + 1 + 1, 4, none⟩ (.int .i64 fi2)).setCell ⟨w.heap.size + 1 + 1, 5, none⟩ (.slice b3 m3 d3)).setCell ⟨w.heap.size + 1 + 1, 6, none⟩ (.slice b4 m4 d4)) := ⟨_, rfl⟩
  have KZ : Hid (Blk Z (w.heap.size + 1 + 1) #[.int .i64 la2, .int .i64 ne2, .slice b1 m1 d1, .slice b2 m2 d2, .int .i64 fi2, .slice b3 m3 d3, .slice b4 m4 d4] 34) := by rw [hZ]; exact seven_out KB1.out _ _ _ _ _ _ _
  have BZ : Hid (Below w.heap.size w Z) := by rw [hZ]; exact seven_below BW1.out (by omega) _ _ _ _ _ _ _
  obtain ⟨h1, h2, h3, h4, h5, hT⟩ := HR.out
  have hTZ : TrIn (fun g => w.heap.size ≤ g) Z (.slice b1 m1 d1) (.slice b2 m2 d2) (.slice b3 m3 d3) (.slice b4 m4 d4) A.1 := by
    rw [hZ]; exact hT.to (seven_same (by omega) _ _ _ _ _ _ _) (fun g _ hg => by omega)
  rw [← hZ]
  clear hZ KB1 BW1 HR hT hN
  obtain ⟨q0, q1, q2, q3, q4, q5, q6⟩ := KZ.out.sevenc
  rw [← h1, ← h2, ← h3, ← h4, ← h5]
  clear h1 h2 h3 h4 h5
  exact bodyPost_ret (v := .tuple #[.agg #[.int .i64 la2, .int .i64 ne2, .slice b1 m1 d1, .slice b2 m2 d2, .int .i64 fi2, .slice b3 m3 d3, .slice b4 m4 d4], .int .i64 rc, .int .i64 re]) (by simp [results, Tryz.results23, go_sem, q0, q1, q2, q3, q4, q5, q6]) rfl ⟨_, _, _, _, rfl, hTZ, BZ.out⟩

end Go.Proofs.YtnpaejknoipicagGreat

namespace Go.Proofs.YtnpaejknoipicagGreat
open Go.RowKit Go.Sort

def p0 : Pk := ⟨258, 5, true, true, true, ⟨#[97, 98]⟩⟩
end Go.Proofs.YtnpaejknoipicagGreat

namespace Go.Proofs.YtnpaejknoipicagGreat
open Go.RowKit Go.Sort

/-- the bytes of a number as the document's recursion has them -/
def beR : Nat → Int → List UInt8
  | 0, _ => []
  | k + 1, n => beR k (n / 256) ++ [byteU n 0]
theorem beR_len (k : Nat) : ∀ n, (beR k n).length = k := by
  induction k with
  | zero => intro n; rfl
  | succ k ih => intro n; simp [beR, ih]
theorem byteU_div (n : Int) (i : Nat) : byteU (n / 256) i = byteU n (i + 1) := by
  apply u8_ext
  rw [byteU_toNat, byteU_toNat, show (8 * (i + 1)) = 8 + 8 * i by omega, Int.pow_add, ← Int.ediv_ediv_of_nonneg (by decide)]
  rfl
theorem beR1 (n : Int) : beR 1 n = be n 1 := rfl
theorem beR2 (n : Int) : beR 2 n = be n 2 := by
  show [byteU (n / 256) 0, byteU n 0] = [byteU n 1, byteU n 0]
  rw [byteU_div]
theorem beR4 (n : Int) : beR 4 n = be n 4 := by
  show [byteU (n / 256 / 256 / 256) 0, byteU (n / 256 / 256) 0, byteU (n / 256) 0, byteU n 0] = [byteU n 3, byteU n 2, byteU n 1, byteU n 0]
  rw [byteU_div, byteU_div, byteU_div, byteU_div, byteU_div, byteU_div]

theorem ba_append (a b : List UInt8) : ba a ++ ba b = ba (a ++ b) := by
  apply ByteArray.ext; simp [ba]
theorem one_back (n : Int) (W : World) (b : Nat) (h : W.cell? ⟨b, 0, none⟩ = some (.int .u8 (n % 256))) :
    (convert 210 9 (.slice (some ⟨b, 0, none⟩) 1 1)).run Tryz.prog W = .ok (.string (ba [byteU n 0])) W := by
  refine run_convert_bytes_back W 210 9 5 ⟨b, 0, none⟩ 1 [byteU n 0] Tryz.underlying210 Tryz.underlying5 Tryz.underlying9 (fun j hj => ?_)
  have hj0 : j = 0 := by simpa using hj
  subst hj0
  rw [Addr.add_lit]
  show W.cell? ⟨b, 0, none⟩ = some (.int .u8 (((byteU n 0).toNat : Nat) : Int))
  rw [b0]
  exact h

set_option maxHeartbeats 2000000 in
theorem numberBytes_any (k : Nat) : ∀ (n ki : Int) (w : World), ki = (k : Int) → 0 ≤ n → n ≤ 4294967295 → k ≤ 8 →
    Calls Tryz.prog 128 #[.int .i64 n, .int .i64 ki] w fun e w' => e = .returned (.string (ba (beR k n))) ∧ Below w.heap.size w w' := by
  induction k with
  | zero =>
    intro n ki w hki hn _ _
    subst hki
    go_enter Tryz.func128, Tryz.ntmps128
    go_wp2
    go_ret
    exact ⟨rfl, Below.refl _ _⟩
  | succ k ih =>
    intro n ki w hki hn hn2 hk8
    have hk0 : (ki == 0) = false := by rw [hki]; simp; omega
    have hkb : 0 ≤ ki ∧ ki ≤ 8 := by omega
    have IH := @id (Hid (∀ w : World, Calls Tryz.prog 128 #[.int .i64 (n / 256), .int .i64 (ki - 1)] w fun e w' => e = .returned (.string (ba (beR k (n / 256)))) ∧ Below w.heap.size w w')) (fun w => ih (n / 256) (ki - 1) w (by omega) (by omega) (by omega) (by omega))
    obtain ⟨r, hr⟩ : ∃ r, r = beR k (n / 256) := ⟨_, rfl⟩
    rw [← hr] at IH
    have hrl : (ba r).size ≤ 8 := by rw [hr, ba_size, beR_len]; omega
    have HR : Hid (r = beR k (n / 256)) := hr
    clear hr hki ih
    obtain ⟨hk1, hk2⟩ := hkb
    go_enter Tryz.func128, Tryz.ntmps128
    go_wp2_with fail
    have hw1 : IntKind.i64.wrap (n.tdiv 256) = n / 256 := by rw [Int.tdiv_eq_ediv_of_nonneg hn, IntKind.wrap_i64]; omega
    have hw2 : IntKind.i64.wrap (ki - 1) = ki - 1 := by rw [IntKind.wrap_i64]; omega
    have hw3 : n.tmod 256 = n % 256 := Int.tmod_eq_emod_of_nonneg hn
    have hw4 : IntKind.u8.wrap (n % 256) = n % 256 := by rw [IntKind.wrap_u8]; omega
    have hsm : ¬ 9223372036854775807 < (ba r).size + (ba [byteU n 0]).size := by rw [ba_size [byteU n 0]]; simp; omega
    have hcv := one_back n
    go_region_with (go_at_call 128; refine (IH.out _).mono ?_; rintro e w1 ⟨rfl, hb1⟩; have hcw := hb1.cell (p := ⟨w.heap.size, 0, none⟩))
    all_goals
      go_wp2
      go_ret
      refine ⟨?_, ?_⟩
      · show Ending.returned (.string (ba r ++ ba [byteU n 0])) = _
        rw [ba_append, HR.out]
        rfl
      · first
          | exact (((Below.refl _ w).drew).trans hb1).alloc (((Below.refl _ w).drew).trans hb1).size _
          | exact (((Below.refl _ w).alloc (Nat.le_refl _) _).drew).trans (hb1.mono (by simp))

end Go.Proofs.YtnpaejknoipicagGreat

namespace Go.Proofs.YtnpaejknoipicagGreat
open Go.RowKit Go.Sort

set_option maxHeartbeats 8000000 in
theorem packetBytes_any (p : Pk) (w : World) (h : p.chk = 0) :
    Calls Tryz.prog 99 #[p.val] w fun e w' => e = .returned (.string (ba p.enc)) ∧ Below w.heap.size w w' := by
  obtain ⟨h1, h2, h3, h4, h5, _⟩ := Pk.chk_ok h
  obtain ⟨hf1, hf2⟩ := Pk.flags_le p.f p.e p.k
  obtain ⟨fl, hfl⟩ : ∃ fl, fl = 128 + Pk.flags p.f p.e p.k := ⟨_, rfl⟩
  obtain ⟨x1, hx1⟩ : ∃ x, x = ba (be fl 1) := ⟨_, rfl⟩
  obtain ⟨x2, hx2⟩ : ∃ x, x = ba (be p.seq 2) := ⟨_, rfl⟩
  obtain ⟨x3, hx3⟩ : ∃ x, x = ba (be p.time 4) := ⟨_, rfl⟩
  obtain ⟨x4, hx4⟩ : ∃ x, x = ba (be p.t.size 1) := ⟨_, rfl⟩
  have s1 : x1.size = 1 := by rw [hx1, ba_size]; rfl
  have s2 : x2.size = 2 := by rw [hx2, ba_size]; rfl
  have s3 : x3.size = 4 := by rw [hx3, ba_size]; rfl
  have s4 : x4.size = 1 := by rw [hx4, ba_size]; rfl
  have hfin : x1 ++ x2 ++ x3 ++ x4 ++ p.t = ba p.enc := by
    rw [hx1, hx2, hx3, hx4, ← ba_of p.t, ba_append, ba_append, ba_append, ba_append, ba_of, hfl]
    rfl
  have c1 : ∀ W : World, Calls Tryz.prog 128 #[.int .i64 fl, .int .i64 1] W fun e w' => e = .returned (.string x1) ∧ Below W.heap.size W w' := fun W => by
    rw [hx1, ← beR1]; exact numberBytes_any 1 fl 1 W rfl (by omega) (by omega) (by decide)
  have c2 : ∀ W : World, Calls Tryz.prog 128 #[.int .i64 p.seq, .int .i64 2] W fun e w' => e = .returned (.string x2) ∧ Below W.heap.size W w' := fun W => by
    rw [hx2, ← beR2]; exact numberBytes_any 2 p.seq 2 W rfl (by omega) (by omega) (by decide)
  have c3 : ∀ W : World, Calls Tryz.prog 128 #[.int .i64 p.time, .int .i64 4] W fun e w' => e = .returned (.string x3) ∧ Below W.heap.size W w' := fun W => by
    rw [hx3, ← beR4]; exact numberBytes_any 4 p.time 4 W rfl (by omega) (by omega) (by decide)
  have c4 : ∀ W : World, Calls Tryz.prog 128 #[.int .i64 (p.t.size : Int), .int .i64 1] W fun e w' => e = .returned (.string x4) ∧ Below W.heap.size W w' := fun W => by
    rw [hx4, ← beR1]; exact numberBytes_any 1 p.t.size 1 W rfl (by omega) (by omega) (by decide)
  rw [← hfin]
  obtain ⟨seq, time, f, e, k, t⟩ := p
  simp only [Pk.val] at *
  obtain ⟨W, hW⟩ : ∃ W, W = w.alloc (.cells #[.int .i64 seq, .int .i64 time, .bool f, .bool e, .bool k, .string t] 63) := ⟨_, rfl⟩
  have bW : Blk W w.heap.size #[.int .i64 seq, .int .i64 time, .bool f, .bool e, .bool k, .string t] 63 := by rw [hW]; exact Blk.new _ _ _
  have hbW : Below w.heap.size w W := by rw [hW]; exact (Below.refl _ _).alloc (Nat.le_refl _) _
  obtain ⟨d0, d1, _, _, _, d5, _⟩ := bW.six
  have k0 := cell_regrown d0
  have k1 := cell_regrown d1
  have k5 := cell_regrown d5
  have C1 := @id (Hid (∀ d os, Calls Tryz.prog 128 #[.int .i64 fl, .int .i64 1] (grow (redrawn W d) os) fun e w'' => e = .returned (.string x1) ∧ ∃ p : Regrown, w'' = grow (redrawn W p.d) p.os)) (fun d os => Calls.regrown_of (c1 _))
  have C2 := @id (Hid (∀ d os, Calls Tryz.prog 128 #[.int .i64 seq, .int .i64 2] (grow (redrawn W d) os) fun e w'' => e = .returned (.string x2) ∧ ∃ p : Regrown, w'' = grow (redrawn W p.d) p.os)) (fun d os => Calls.regrown_of (c2 _))
  have C3 := @id (Hid (∀ d os, Calls Tryz.prog 128 #[.int .i64 time, .int .i64 4] (grow (redrawn W d) os) fun e w'' => e = .returned (.string x3) ∧ ∃ p : Regrown, w'' = grow (redrawn W p.d) p.os)) (fun d os => Calls.regrown_of (c3 _))
  have C4 := @id (Hid (∀ d os, Calls Tryz.prog 128 #[.int .i64 (t.size : Int), .int .i64 1] (grow (redrawn W d) os) fun e w'' => e = .returned (.string x4) ∧ ∃ p : Regrown, w'' = grow (redrawn W p.d) p.os)) (fun d os => Calls.regrown_of (c4 _))
  have n1 : ¬ 9223372036854775807 < x1.size + x2.size := by omega
  have n2 : ¬ 9223372036854775807 < x1.size + x2.size + x3.size := by omega
  have n3 : ¬ 9223372036854775807 < x1.size + x2.size + x3.size + x4.size := by omega
  have n4 : ¬ 9223372036854775807 < x1.size + x2.size + x3.size + x4.size + t.size := by omega
  clear c1 c2 c3 c4 d0 d1 d5 bW hx1 hx2 hx3 hx4 s1 s2 s3 s4 hfin h h1 h2 h3 h4 h5 hf1 hf2
  have HW : Hid _ := hW
  subst hfl
  clear hW
  cases f <;> cases e <;> cases k
  all_goals
    simp only [Pk.flags, Bool.false_eq_true, if_true, if_false, Int.reduceAdd] at C1
    go_enter Tryz.func99, Tryz.ntmps99
    go_wp2_with fail
    rw [← HW.out]
    refine wp_region_quiet_below (by kernel_rfl) (by kernel_rfl) ?_
    repeat (quiet_step (first | (go_at_call_of 128 (Value.int IntKind.i64 2); exact C2.out _ _) | (go_at_call_of 128 (Value.int IntKind.i64 4); exact C3.out _ _) | (go_at_call_of 128 (Value.int IntKind.i64 (t.size : Int)); exact C4.out _ _) | exact C1.out _ _))
    refine wpQuiet_nil ?_
    intro _ hw'
    obtain ⟨⟨dq, osq⟩, hw''⟩ := hw'
    subst hw''
    clear k0 k1 k5
    go_wp2
    go_ret
    exact ⟨rfl, hbW.trans ((below_regrown W dq osq).mono hbW.size)⟩

end Go.Proofs.YtnpaejknoipicagGreat

namespace Go.Proofs.YtnpaejknoipicagGreat
open Go.RowKit

theorem trWhole_any (seq time : Int) (t : ByteArray) (w : World) :
    Calls Tryz.prog 58 #[.int .i64 seq, .int .i64 time, .string t] w fun e w' => e = .returned (.agg #[.int .i64 seq, .int .i64 time, .bool true, .bool true, .bool true, .string t]) ∧ Below w.heap.size w w' := by
  go_enter Tryz.func58, Tryz.ntmps58
  go_wp2
  exact bodyPost_ret (v := .agg #[.int .i64 seq, .int .i64 time, .bool true, .bool true, .bool true, .string t]) (by simp [results, Tryz.results58, go_sem]) rfl ⟨rfl, (Below.refl _ _).alloc (Nat.le_refl _) _⟩

theorem bytesOf_any (s t : Int) (f e k : Bool) (x : ByteArray) (w : World) (h : (Pk.mk s t f e k x).chk = 0) :
    Calls Tryz.prog 57 #[.agg #[.int .i64 s, .int .i64 t, .bool f, .bool e, .bool k, .string x]] w fun r w' => r = .returned (.string (ba (Pk.mk s t f e k x).enc)) ∧ Below w.heap.size w w' := by
  obtain ⟨b, hb⟩ : ∃ b, b = ba (Pk.mk s t f e k x).enc := ⟨_, rfl⟩
  have HP : Hid (∀ W : World, Calls Tryz.prog 99 #[.agg #[.int .i64 s, .int .i64 t, .bool f, .bool e, .bool k, .string x]] W fun r w' => r = .returned (.string b) ∧ Below W.heap.size W w') := fun W => by rw [hb]; exact packetBytes_any _ W h
  rw [← hb]
  clear hb h
  go_enter Tryz.func57, Tryz.ntmps57
  go_wp2_with fail
  refine (HP.out _).mono ?_
  rintro r w1 ⟨rfl, b1⟩
  have BW : Hid (Below w.heap.size w w1) := ((Below.refl _ w).alloc (Nat.le_refl _) _).trans (b1.mono (by simp))
  clear b1
  go_wp2
  go_ret
  exact ⟨rfl, BW.out⟩

/-- track.Feed, as the laws' walks want it: all values under names -/
theorem begFeed (t t' : Tr) (s : List UInt8) (cl : Nat) (er : Int) (la0 ne0 fi0 : Int) (hv bv gv ov : Value) (S : Nat → Prop) (w : World) (hf : feedA t s = (t', cl, er)) (hl : la0 = t.last) (hn : ne0 = t.next) (hi : fi0 = t.first) (hr : TrIn S w hv bv gv ov t) :
    Calls Tryz.prog 23 #[.agg #[.int .i64 la0, .int .i64 ne0, hv, bv, .int .i64 fi0, gv, ov], .string (ba s)] w fun e w' => ∃ la1 ne1 ha1 hn1 hc1 oa1 on1 oc1 fi1 ga1 gn1 gc1 pa1 pn1 pc1, e = .returned (.tuple #[.agg #[.int .i64 la1, .int .i64 ne1, .slice ha1 hn1 hc1, .slice oa1 on1 oc1, .int .i64 fi1, .slice ga1 gn1 gc1, .slice pa1 pn1 pc1], .int .i64 cl, .int .i64 er]) ∧ Hid (la1 = t'.last ∧ ne1 = t'.next ∧ fi1 = t'.first ∧ gn1 = t'.L.length) ∧ Hid (TrIn (fun g => w.heap.size ≤ g) w' (.slice ha1 hn1 hc1) (.slice oa1 on1 oc1) (.slice ga1 gn1 gc1) (.slice pa1 pn1 pc1) t') ∧ Below w.heap.size w w' := by
  subst hl hn hi
  refine (trkFeed_any S t s hv bv gv ov w hr).mono ?_
  rw [hf]
  rintro e w' ⟨x1, x2, x3, x4, rfl, q, b⟩
  obtain ⟨a1, c1, a2, c2, a3, c3, a4, c4, e1, e2, e3, e4⟩ := q.slices
  subst e1 e2 e3 e4
  exact ⟨_, _, _, _, _, _, _, _, _, _, _, _, _, _, _, rfl, ⟨rfl, rfl, rfl, rfl⟩, q, b⟩
end Go.Proofs.YtnpaejknoipicagGreat

namespace Go.Proofs.YtnpaejknoipicagGreat
open Go.RowKit

set_option maxHeartbeats 4000000 in
set_option maxRecDepth 100000 in
theorem doLive_any (B M : Nat) (x0 x1 x2 x3 x4 x5 x6 x7 x8 x9 : Value) (first : Int) (gv ov x13 : Value) (L : List (List Fr)) (O : List Fr) (w : World) (hB : Blk w B #[.pointer (some ⟨M, 0, none⟩)] 119) (hM : Blk w M #[x0, x1, x2, x3, x4, x5, x6, x7, x8, x9, .int .i64 first, gv, ov, x13] 77) (hg : GrsIn (fun _ => True) w gv L) (ho : FrsIn (fun _ => True) w ov O) :
    Calls Tryz.prog 73 #[.pointer (some ⟨B, 0, none⟩)] w fun e w' => e = .returned (.tuple #[.agg #[.int .i64 (begM first L O 1 1000000), .int .i64 (seekN first L O 1000000), .int .i64 0], .int .i64 (seekE first L O 1000000)]) ∧ Below w.heap.size w w' := by
  obtain ⟨ga, gc, eg, _, _⟩ := hg.len
  obtain ⟨oa, oc, eo, _, _⟩ := ho.len
  obtain ⟨ln, hln⟩ : ∃ n, n = L.length := ⟨_, rfl⟩
  obtain ⟨lo, hlo⟩ : ∃ n, n = O.length := ⟨_, rfl⟩
  rw [← hln] at eg
  rw [← hlo] at eo
  obtain ⟨m1, hm1⟩ : ∃ x, x = begM first L O 1 1000000 := ⟨_, rfl⟩
  obtain ⟨g1, hg1⟩ : ∃ x, x = seekN first L O 1000000 := ⟨_, rfl⟩
  obtain ⟨E, hE⟩ : ∃ x, x = seekE first L O 1000000 := ⟨_, rfl⟩
  have HL : Hid (∀ U, Below w.heap.size w U → Calls Tryz.prog 74 #[.agg #[.int .i64 first, gv, ov]] U fun e w' => e = .returned (.tuple #[.agg #[.int .i64 m1, .int .i64 g1, .int .i64 0], .int .i64 E]) ∧ Below U.heap.size U w') := fun U hU => by
    rw [hm1, hg1, hE]; exact live_any first gv ov L O U (hg.below hU) (ho.below hU)
  rw [← hm1, ← hg1, ← hE]
  have b0 := hB.cell (j := 0) (u := .pointer (some ⟨M, 0, none⟩)) rfl
  have y10 := hM.cell (j := 10) (u := .int .i64 first) rfl
  have y11 := hM.cell (j := 11) (u := gv) rfl
  have y12 := hM.cell (j := 12) (u := ov) rfl
  have lB := hB.lt
  have lM := hM.lt
  clear hB hM hg ho hln hlo hm1 hg1 hE
  subst eg eo
  go_enter Tryz.func73, Tryz.ntmps73
  go_wp2_with fail
  obtain ⟨V, hV⟩ : ∃ V, V = w.alloc (.cells #[.int .i64 0, .int .i64 0, .int .i64 0] 36) := ⟨_, rfl⟩
  have HB : Hid (Below w.heap.size w V) := by rw [hV]; exact (Below.refl _ _).alloc (Nat.le_refl _) _
  have HX : Hid (Blk V w.heap.size #[.int .i64 0, .int .i64 0, .int .i64 0] 36) := Blk.newE hV
  rw [← hV]
  clear hV
  refine (HL.out V HB.out).mono ?_
  rintro e w1 ⟨rfl, b1⟩
  have HX1 := HX.out.below b1 HX.out.lt
  obtain ⟨z0, z1, z2⟩ := HX1.three
  have fX := HX1.free
  have lX := HX1.lt
  obtain ⟨W, hW⟩ : ∃ W, W = ((w1.setCell ⟨w.heap.size, 0, none⟩ (.int .i64 m1)).setCell ⟨w.heap.size, 1, none⟩ (.int .i64 g1)).setCell ⟨w.heap.size, 2, none⟩ (.int .i64 0) := ⟨_, rfl⟩
  have HXW : Hid (Blk W w.heap.size #[.int .i64 m1, .int .i64 g1, .int .i64 0] 36) := by rw [hW]; exact HX1.put3 _ _ _
  have HBW : Hid (Below w.heap.size w W) := by
    rw [hW]
    exact (((HB.out.trans (b1.mono HB.out.size)).setCell (Nat.le_refl _) _).setCell (Nat.le_refl _) _).setCell (Nat.le_refl _) _
  clear HX HX1 b1 HB HL b0 y10 y11 y12
  go_wp2
  rw [← hW]
  clear hW z0 z1 z2 fX lX
  obtain ⟨z0, z1, z2⟩ := HXW.out.three
  exact bodyPost_ret (v := .tuple #[.agg #[.int .i64 m1, .int .i64 g1, .int .i64 0], .int .i64 E]) (by simp [results, Tryz.results73, go_sem, z0, z1, z2]) rfl ⟨rfl, HBW.out⟩

set_option maxHeartbeats 4000000 in
set_option maxRecDepth 100000 in
theorem doPause_any (B M : Nat) (m g f : Int) (x3 x4 x5 x6 x7 x8 x9 x10 x11 x12 x13 : Value) (w : World) (hB : Blk w B #[.pointer (some ⟨M, 0, none⟩)] 119) (hM : Blk w M #[.int .i64 m, .int .i64 g, .int .i64 f, x3, x4, x5, x6, x7, x8, x9, x10, x11, x12, x13] 77) :
    Calls Tryz.prog 78 #[.pointer (some ⟨B, 0, none⟩)] w fun e w' => e = .returned (.tuple #[.agg #[.int .i64 (pauN m g f 2), .int .i64 (pauN m g f g), .int .i64 (pauN m g f f)], .int .i64 (curE m g f)]) ∧ Below w.heap.size w w' := by
  obtain ⟨m1, hm1⟩ : ∃ x, x = pauN m g f 2 := ⟨_, rfl⟩
  obtain ⟨g1, hg1⟩ : ∃ x, x = pauN m g f g := ⟨_, rfl⟩
  obtain ⟨f1, hf1⟩ : ∃ x, x = pauN m g f f := ⟨_, rfl⟩
  obtain ⟨E, hE⟩ : ∃ x, x = curE m g f := ⟨_, rfl⟩
  have HL : Hid (∀ U : World, Calls Tryz.prog 79 #[.agg #[.int .i64 m, .int .i64 g, .int .i64 f]] U fun e w' => e = .returned (.tuple #[.agg #[.int .i64 m1, .int .i64 g1, .int .i64 f1], .int .i64 E]) ∧ Below U.heap.size U w') := fun U => by
    rw [hm1, hg1, hf1, hE]; exact pause_any m g f U
  rw [← hm1, ← hg1, ← hf1, ← hE]
  have b0 := hB.cell (j := 0) (u := .pointer (some ⟨M, 0, none⟩)) rfl
  have y0 := hM.cell (j := 0) (u := .int .i64 m) rfl
  have y1 := hM.cell (j := 1) (u := .int .i64 g) rfl
  have y2 := hM.cell (j := 2) (u := .int .i64 f) rfl
  have lB := hB.lt
  have lM := hM.lt
  clear hB hM hm1 hg1 hf1 hE
  go_enter Tryz.func78, Tryz.ntmps78
  go_wp2_with fail
  obtain ⟨V, hV⟩ : ∃ V, V = w.alloc (.cells #[.int .i64 0, .int .i64 0, .int .i64 0] 36) := ⟨_, rfl⟩
  have HB : Hid (Below w.heap.size w V) := by rw [hV]; exact (Below.refl _ _).alloc (Nat.le_refl _) _
  have HX : Hid (Blk V w.heap.size #[.int .i64 0, .int .i64 0, .int .i64 0] 36) := Blk.newE hV
  rw [← hV]
  clear hV
  refine (HL.out V).mono ?_
  rintro e w1 ⟨rfl, b1⟩
  have HX1 := HX.out.below b1 HX.out.lt
  obtain ⟨z0, z1, z2⟩ := HX1.three
  have fX := HX1.free
  have lX := HX1.lt
  obtain ⟨W, hW⟩ : ∃ W, W = ((w1.setCell ⟨w.heap.size, 0, none⟩ (.int .i64 m1)).setCell ⟨w.heap.size, 1, none⟩ (.int .i64 g1)).setCell ⟨w.heap.size, 2, none⟩ (.int .i64 f1) := ⟨_, rfl⟩
  have HXW : Hid (Blk W w.heap.size #[.int .i64 m1, .int .i64 g1, .int .i64 f1] 36) := by rw [hW]; exact HX1.put3 _ _ _
  have HBW : Hid (Below w.heap.size w W) := by
    rw [hW]
    exact (((HB.out.trans (b1.mono HB.out.size)).setCell (Nat.le_refl _) _).setCell (Nat.le_refl _) _).setCell (Nat.le_refl _) _
  clear HX HX1 b1 HB HL b0 y0 y1 y2
  go_wp2
  rw [← hW]
  clear hW z0 z1 z2 fX lX
  obtain ⟨z0, z1, z2⟩ := HXW.out.three
  exact bodyPost_ret (v := .tuple #[.agg #[.int .i64 m1, .int .i64 g1, .int .i64 f1], .int .i64 E]) (by simp [results, Tryz.results78, go_sem, z0, z1, z2]) rfl ⟨rfl, HBW.out⟩

set_option maxHeartbeats 4000000 in
set_option maxRecDepth 100000 in
theorem dkSet1_any (B M : Nat) (m g f : Int) (x3 x4 x5 x6 x7 x8 x9 x10 x11 x12 x13 : Value) (m1 g1 f1 E : Int) (w : World) (hM : Blk w M #[.int .i64 m, .int .i64 g, .int .i64 f, x3, x4, x5, x6, x7, x8, x9, x10, x11, x12, x13] 77) (hc : Calls Tryz.prog 73 #[.pointer (some ⟨B, 0, none⟩)] w fun e w' => e = .returned (.tuple #[.agg #[.int .i64 m1, .int .i64 g1, .int .i64 f1], .int .i64 E]) ∧ Below w.heap.size w w') :
    Calls Tryz.prog 72 #[.pointer (some ⟨M, 0, none⟩), .func (.func 73) #[] #[.pointer (some ⟨B, 0, none⟩)]] w fun e w' => e = .returned (.int .i64 E) ∧ Blk w' M #[.int .i64 m1, .int .i64 g1, .int .i64 f1, x3, x4, x5, x6, x7, x8, x9, x10, x11, x12, x13] 77 ∧ Kept [M] w w' := by
  have HC : Hid (Calls Tryz.prog 73 #[.pointer (some ⟨B, 0, none⟩)] w fun e w' => e = .returned (.tuple #[.agg #[.int .i64 m1, .int .i64 g1, .int .i64 f1], .int .i64 E]) ∧ Below w.heap.size w w') := hc
  have HM : Hid (Blk w M #[.int .i64 m, .int .i64 g, .int .i64 f, x3, x4, x5, x6, x7, x8, x9, x10, x11, x12, x13] 77) := hM
  have hMl := hM.lt
  clear hc hM
  go_enter Tryz.func72, Tryz.ntmps72
  go_wp2_with fail
  refine HC.out.mono ?_
  rintro e w1 ⟨rfl, b1⟩
  obtain ⟨P, hP⟩ : ∃ P, P = w1.heap.size := ⟨_, rfl⟩
  obtain ⟨V, hV⟩ : ∃ V, V = w1.alloc (.cells #[.int .i64 m1, .int .i64 g1, .int .i64 f1] 36) := ⟨_, rfl⟩
  have bV : Below w.heap.size w V := by rw [hV]; exact b1.alloc b1.size _
  have HMV : Hid (Blk V M #[.int .i64 m, .int .i64 g, .int .i64 f, x3, x4, x5, x6, x7, x8, x9, x10, x11, x12, x13] 77) := HM.out.below bV hMl
  have HPV : Hid (Blk V P #[.int .i64 m1, .int .i64 g1, .int .i64 f1] 36) := by rw [hP]; exact Blk.newE hV
  have hPs := b1.size
  obtain ⟨W, hW⟩ : ∃ W, W = ((V.setCell ⟨M, 0, none⟩ (.int .i64 m1)).setCell ⟨M, 1, none⟩ (.int .i64 g1)).setCell ⟨M, 2, none⟩ (.int .i64 f1) := ⟨_, rfl⟩
  have HMW : Hid (Blk W M #[.int .i64 m1, .int .i64 g1, .int .i64 f1, x3, x4, x5, x6, x7, x8, x9, x10, x11, x12, x13] 77) := by
    have := ((HMV.out.set 0 (.int .i64 m1)).set 1 (.int .i64 g1)).set 2 (.int .i64 f1)
    rw [hW]; simpa [Hid] using this
  have HKW : Hid (Kept [M] w W) := by rw [hW]; exact ((Kept.refl _ _).below bV).put3 (by simp) _ _ _
  obtain ⟨z0, z1, z2⟩ := HPV.out.three
  have y0 := HMV.out.cell (j := 0) (u := .int .i64 m) rfl
  have y1 := HMV.out.cell (j := 1) (u := .int .i64 g) rfl
  have y2 := HMV.out.cell (j := 2) (u := .int .i64 f) rfl
  have fM := HMV.out.free
  have lM := HMV.out.lt
  clear HM HC b1 bV HMV HPV
  go_upto_region 2 with fail
  rw [← hV]
  try rw [← hP]
  clear hV hP
  go_wp2
  rw [← hW]
  go_ret
  exact ⟨rfl, HMW.out, HKW.out⟩

set_option maxHeartbeats 4000000 in
set_option maxRecDepth 100000 in
theorem dkSet2_any (B C M : Nat) (m g f : Int) (x3 x4 x5 x6 x7 x8 x9 x10 x11 x12 x13 : Value) (m1 g1 f1 E : Int) (w : World) (hM : Blk w M #[.int .i64 m, .int .i64 g, .int .i64 f, x3, x4, x5, x6, x7, x8, x9, x10, x11, x12, x13] 77) (hc : Calls Tryz.prog 75 #[.pointer (some ⟨B, 0, none⟩), .pointer (some ⟨C, 0, none⟩)] w fun e w' => e = .returned (.tuple #[.agg #[.int .i64 m1, .int .i64 g1, .int .i64 f1], .int .i64 E]) ∧ Below w.heap.size w w') :
    Calls Tryz.prog 72 #[.pointer (some ⟨M, 0, none⟩), .func (.func 75) #[] #[.pointer (some ⟨B, 0, none⟩), .pointer (some ⟨C, 0, none⟩)]] w fun e w' => e = .returned (.int .i64 E) ∧ Blk w' M #[.int .i64 m1, .int .i64 g1, .int .i64 f1, x3, x4, x5, x6, x7, x8, x9, x10, x11, x12, x13] 77 ∧ Kept [M] w w' := by
  have HC : Hid (Calls Tryz.prog 75 #[.pointer (some ⟨B, 0, none⟩), .pointer (some ⟨C, 0, none⟩)] w fun e w' => e = .returned (.tuple #[.agg #[.int .i64 m1, .int .i64 g1, .int .i64 f1], .int .i64 E]) ∧ Below w.heap.size w w') := hc
  have HM : Hid (Blk w M #[.int .i64 m, .int .i64 g, .int .i64 f, x3, x4, x5, x6, x7, x8, x9, x10, x11, x12, x13] 77) := hM
  have hMl := hM.lt
  clear hc hM
  go_enter Tryz.func72, Tryz.ntmps72
  go_wp2_with fail
  refine HC.out.mono ?_
  rintro e w1 ⟨rfl, b1⟩
  obtain ⟨P, hP⟩ : ∃ P, P = w1.heap.size := ⟨_, rfl⟩
  obtain ⟨V, hV⟩ : ∃ V, V = w1.alloc (.cells #[.int .i64 m1, .int .i64 g1, .int .i64 f1] 36) := ⟨_, rfl⟩
  have bV : Below w.heap.size w V := by rw [hV]; exact b1.alloc b1.size _
  have HMV : Hid (Blk V M #[.int .i64 m, .int .i64 g, .int .i64 f, x3, x4, x5, x6, x7, x8, x9, x10, x11, x12, x13] 77) := HM.out.below bV hMl
  have HPV : Hid (Blk V P #[.int .i64 m1, .int .i64 g1, .int .i64 f1] 36) := by rw [hP]; exact Blk.newE hV
  have hPs := b1.size
  obtain ⟨W, hW⟩ : ∃ W, W = ((V.setCell ⟨M, 0, none⟩ (.int .i64 m1)).setCell ⟨M, 1, none⟩ (.int .i64 g1)).setCell ⟨M, 2, none⟩ (.int .i64 f1) := ⟨_, rfl⟩
  have HMW : Hid (Blk W M #[.int .i64 m1, .int .i64 g1, .int .i64 f1, x3, x4, x5, x6, x7, x8, x9, x10, x11, x12, x13] 77) := by
    have := ((HMV.out.set 0 (.int .i64 m1)).set 1 (.int .i64 g1)).set 2 (.int .i64 f1)
    rw [hW]; simpa [Hid] using this
  have HKW : Hid (Kept [M] w W) := by rw [hW]; exact ((Kept.refl _ _).below bV).put3 (by simp) _ _ _
  obtain ⟨z0, z1, z2⟩ := HPV.out.three
  have y0 := HMV.out.cell (j := 0) (u := .int .i64 m) rfl
  have y1 := HMV.out.cell (j := 1) (u := .int .i64 g) rfl
  have y2 := HMV.out.cell (j := 2) (u := .int .i64 f) rfl
  have fM := HMV.out.free
  have lM := HMV.out.lt
  clear HM HC b1 bV HMV HPV
  go_upto_region 2 with fail
  rw [← hV]
  try rw [← hP]
  clear hV hP
  go_wp2
  rw [← hW]
  go_ret
  exact ⟨rfl, HMW.out, HKW.out⟩

set_option maxHeartbeats 4000000 in
set_option maxRecDepth 100000 in
theorem dkSet3_any (B M : Nat) (m g f : Int) (x3 x4 x5 x6 x7 x8 x9 x10 x11 x12 x13 : Value) (m1 g1 f1 E : Int) (w : World) (hM : Blk w M #[.int .i64 m, .int .i64 g, .int .i64 f, x3, x4, x5, x6, x7, x8, x9, x10, x11, x12, x13] 77) (hc : Calls Tryz.prog 78 #[.pointer (some ⟨B, 0, none⟩)] w fun e w' => e = .returned (.tuple #[.agg #[.int .i64 m1, .int .i64 g1, .int .i64 f1], .int .i64 E]) ∧ Below w.heap.size w w') :
    Calls Tryz.prog 72 #[.pointer (some ⟨M, 0, none⟩), .func (.func 78) #[] #[.pointer (some ⟨B, 0, none⟩)]] w fun e w' => e = .returned (.int .i64 E) ∧ Blk w' M #[.int .i64 m1, .int .i64 g1, .int .i64 f1, x3, x4, x5, x6, x7, x8, x9, x10, x11, x12, x13] 77 ∧ Kept [M] w w' := by
  have HC : Hid (Calls Tryz.prog 78 #[.pointer (some ⟨B, 0, none⟩)] w fun e w' => e = .returned (.tuple #[.agg #[.int .i64 m1, .int .i64 g1, .int .i64 f1], .int .i64 E]) ∧ Below w.heap.size w w') := hc
  have HM : Hid (Blk w M #[.int .i64 m, .int .i64 g, .int .i64 f, x3, x4, x5, x6, x7, x8, x9, x10, x11, x12, x13] 77) := hM
  have hMl := hM.lt
  clear hc hM
  go_enter Tryz.func72, Tryz.ntmps72
  go_wp2_with fail
  refine HC.out.mono ?_
  rintro e w1 ⟨rfl, b1⟩
  obtain ⟨P, hP⟩ : ∃ P, P = w1.heap.size := ⟨_, rfl⟩
  obtain ⟨V, hV⟩ : ∃ V, V = w1.alloc (.cells #[.int .i64 m1, .int .i64 g1, .int .i64 f1] 36) := ⟨_, rfl⟩
  have bV : Below w.heap.size w V := by rw [hV]; exact b1.alloc b1.size _
  have HMV : Hid (Blk V M #[.int .i64 m, .int .i64 g, .int .i64 f, x3, x4, x5, x6, x7, x8, x9, x10, x11, x12, x13] 77) := HM.out.below bV hMl
  have HPV : Hid (Blk V P #[.int .i64 m1, .int .i64 g1, .int .i64 f1] 36) := by rw [hP]; exact Blk.newE hV
  have hPs := b1.size
  obtain ⟨W, hW⟩ : ∃ W, W = ((V.setCell ⟨M, 0, none⟩ (.int .i64 m1)).setCell ⟨M, 1, none⟩ (.int .i64 g1)).setCell ⟨M, 2, none⟩ (.int .i64 f1) := ⟨_, rfl⟩
  have HMW : Hid (Blk W M #[.int .i64 m1, .int .i64 g1, .int .i64 f1, x3, x4, x5, x6, x7, x8, x9, x10, x11, x12, x13] 77) := by
    have := ((HMV.out.set 0 (.int .i64 m1)).set 1 (.int .i64 g1)).set 2 (.int .i64 f1)
    rw [hW]; simpa [Hid] using this
  have HKW : Hid (Kept [M] w W) := by rw [hW]; exact ((Kept.refl _ _).below bV).put3 (by simp) _ _ _
  obtain ⟨z0, z1, z2⟩ := HPV.out.three
  have y0 := HMV.out.cell (j := 0) (u := .int .i64 m) rfl
  have y1 := HMV.out.cell (j := 1) (u := .int .i64 g) rfl
  have y2 := HMV.out.cell (j := 2) (u := .int .i64 f) rfl
  have fM := HMV.out.free
  have lM := HMV.out.lt
  clear HM HC b1 bV HMV HPV
  go_upto_region 2 with fail
  rw [← hV]
  try rw [← hP]
  clear hV hP
  go_wp2
  rw [← hW]
  go_ret
  exact ⟨rfl, HMW.out, HKW.out⟩

set_option maxHeartbeats 8000000 in
set_option maxRecDepth 100000 in
theorem dkFeed_any (S : Nat → Prop) (M : Nat) (T T' : Tr) (cl : Nat) (er : Int) (s : List UInt8) (x0 x1 x2 x3 x4 x5 : Value) (hv bv gv ov x13 : Value) (w : World) (hf : feedA T s = (T', cl, er)) (hM : Blk w M #[x0, x1, x2, x3, x4, x5, .int .i64 T.last, .int .i64 T.next, hv, bv, .int .i64 T.first, gv, ov, x13] 77) (hr : TrIn S w hv bv gv ov T) :
    Calls Tryz.prog 71 #[.pointer (some ⟨M, 0, none⟩), .string (ba s)] w fun e w' => e = .returned (.int .i64 er) ∧ (∃ hv' bv' gv' ov', Blk w' M #[x0, x1, x2, x3, x4, x5, .int .i64 T'.last, .int .i64 T'.next, hv', bv', .int .i64 T'.first, gv', ov', x13] 77 ∧ TrIn (fun g => g ≠ M ∧ w.heap.size ≤ g) w' hv' bv' gv' ov' T') ∧ Kept [M] w w' := by
  obtain ⟨ha, hc, bo, bc, ga, gc, oa, oc, eh, eb, eg, eo⟩ := hr.slices
  obtain ⟨hn, hhn⟩ : ∃ x, x = T.h.length := ⟨_, rfl⟩
  obtain ⟨bn, hbn⟩ : ∃ x, x = T.o.length := ⟨_, rfl⟩
  obtain ⟨ln, hln⟩ : ∃ x, x = T.L.length := ⟨_, rfl⟩
  obtain ⟨lo, hlo⟩ : ∃ x, x = T.O.length := ⟨_, rfl⟩
  rw [← hhn] at eh
  rw [← hbn] at eb
  rw [← hln] at eg
  rw [← hlo] at eo
  have HF : Hid (Calls Tryz.prog 23 #[.agg #[.int .i64 T.last, .int .i64 T.next, hv, bv, .int .i64 T.first, gv, ov], .string (ba s)] w fun e w' => ∃ la1 ne1 ha1 hn1 hc1 oa1 on1 oc1 fi1 ga1 gn1 gc1 pa1 pn1 pc1, e = .returned (.tuple #[.agg #[.int .i64 la1, .int .i64 ne1, .slice ha1 hn1 hc1, .slice oa1 on1 oc1, .int .i64 fi1, .slice ga1 gn1 gc1, .slice pa1 pn1 pc1], .int .i64 cl, .int .i64 er]) ∧ Hid (la1 = T'.last ∧ ne1 = T'.next ∧ fi1 = T'.first ∧ gn1 = T'.L.length) ∧ Hid (TrIn (fun g => w.heap.size ≤ g) w' (.slice ha1 hn1 hc1) (.slice oa1 on1 oc1) (.slice ga1 gn1 gc1) (.slice pa1 pn1 pc1) T') ∧ Below w.heap.size w w') := begFeed T T' s cl er _ _ _ _ _ _ _ _ w hf rfl rfl rfl hr
  obtain ⟨last, hla⟩ : ∃ x, x = T.last := ⟨_, rfl⟩
  obtain ⟨next, hne⟩ : ∃ x, x = T.next := ⟨_, rfl⟩
  obtain ⟨first, hfi⟩ : ∃ x, x = T.first := ⟨_, rfl⟩
  rw [← hla, ← hne, ← hfi] at HF hM
  have HM : Hid (Blk w M #[x0, x1, x2, x3, x4, x5, .int .i64 last, .int .i64 next, hv, bv, .int .i64 first, gv, ov, x13] 77) := hM
  have hMl := hM.lt
  obtain ⟨QF, hQF⟩ : ∃ Q : World → Prop, Q = fun w' => ∃ hv' bv' gv' ov', Blk w' M #[x0, x1, x2, x3, x4, x5, .int .i64 T'.last, .int .i64 T'.next, hv', bv', .int .i64 T'.first, gv', ov', x13] 77 ∧ TrIn (fun g => g ≠ M ∧ w.heap.size ≤ g) w' hv' bv' gv' ov' T' := ⟨_, rfl⟩
  suffices hgoal : Calls Tryz.prog 71 #[.pointer (some ⟨M, 0, none⟩), .string (ba s)] w fun e w' => e = .returned (.int .i64 er) ∧ QF w' ∧ Kept [M] w w' by
    rw [hQF] at hgoal; exact hgoal
  have HQ : Hid (∀ w' hv' bv' gv' ov' (la1 ne1 fi1 : Int), la1 = T'.last → ne1 = T'.next → fi1 = T'.first → Blk w' M #[x0, x1, x2, x3, x4, x5, .int .i64 la1, .int .i64 ne1, hv', bv', .int .i64 fi1, gv', ov', x13] 77 → TrIn (fun g => g ≠ M ∧ w.heap.size ≤ g) w' hv' bv' gv' ov' T' → QF w') := fun w' hv' bv' gv' ov' la1 ne1 fi1 e1 e2 e3 h1 h2 => by
    subst e1 e2 e3
    rw [hQF]; exact ⟨_, _, _, _, h1, h2⟩
  clear hf hM hr hla hne hfi hhn hbn hln hlo hQF
  subst eh eb eg eo
  obtain ⟨y0, y1, y2, y3, y4, y5, y6, y7, y8, y9, y10, y11, y12, y13⟩ := HM.out.fourteen
  go_enter Tryz.func71, Tryz.ntmps71
  go_wp2_with fail
  refine HF.out.mono ?_
  rintro e w1 ⟨la1, ne1, ha1, hn1, hc1, oa1, on1, oc1, fi1, ga1, gn1, gc1, pa1, pn1, pc1, rfl, G1, T1, b1⟩
  obtain ⟨P, hP⟩ : ∃ P, P = w1.heap.size := ⟨_, rfl⟩
  obtain ⟨V, hV⟩ : ∃ V, V = w1.alloc (.cells #[.int .i64 la1, .int .i64 ne1, .slice ha1 hn1 hc1, .slice oa1 on1 oc1, .int .i64 fi1, .slice ga1 gn1 gc1, .slice pa1 pn1 pc1] 34) := ⟨_, rfl⟩
  have bV : Below w.heap.size w V := by rw [hV]; exact b1.alloc b1.size _
  have bV1 : Below w1.heap.size w1 V := by rw [hV]; exact (Below.refl _ _).alloc (Nat.le_refl _) _
  have HMV : Hid (Blk V M #[x0, x1, x2, x3, x4, x5, .int .i64 last, .int .i64 next, .slice ha hn hc, .slice bo bn bc, .int .i64 first, .slice ga ln gc, .slice oa lo oc, x13] 77) := HM.out.below bV hMl
  have HPV : Hid (Blk V P #[.int .i64 la1, .int .i64 ne1, .slice ha1 hn1 hc1, .slice oa1 on1 oc1, .int .i64 fi1, .slice ga1 gn1 gc1, .slice pa1 pn1 pc1] 34) := by rw [hP]; exact Blk.newE hV
  have hPs := b1.size
  obtain ⟨W, hW⟩ : ∃ W, W = ((((((V.setCell ⟨M, 6, none⟩ (.int .i64 la1)).setCell ⟨M, 7, none⟩ (.int .i64 ne1)).setCell ⟨M, 8, none⟩ (.slice ha1 hn1 hc1)).setCell ⟨M, 9, none⟩ (.slice oa1 on1 oc1)).setCell ⟨M, 10, none⟩ (.int .i64 fi1)).setCell ⟨M, 11, none⟩ (.slice ga1 gn1 gc1)).setCell ⟨M, 12, none⟩ (.slice pa1 pn1 pc1) := ⟨_, rfl⟩
  have HMW : Hid (Blk W M #[x0, x1, x2, x3, x4, x5, .int .i64 la1, .int .i64 ne1, .slice ha1 hn1 hc1, .slice oa1 on1 oc1, .int .i64 fi1, .slice ga1 gn1 gc1, .slice pa1 pn1 pc1, x13] 77) := by
    have := ((((((HMV.out.set 6 (.int .i64 la1)).set 7 (.int .i64 ne1)).set 8 (.slice ha1 hn1 hc1)).set 9 (.slice oa1 on1 oc1)).set 10 (.int .i64 fi1)).set 11 (.slice ga1 gn1 gc1)).set 12 (.slice pa1 pn1 pc1)
    rw [hW]; simpa [Hid] using this
  have hKV : Kept [M] V W := by
    rw [hW]
    exact (((((((Kept.refl [M] V).setCell (p := ⟨M, 6, none⟩) (by simp) _).setCell (p := ⟨M, 7, none⟩) (by simp) _).setCell (p := ⟨M, 8, none⟩) (by simp) _).setCell (p := ⟨M, 9, none⟩) (by simp) _).setCell (p := ⟨M, 10, none⟩) (by simp) _).setCell (p := ⟨M, 11, none⟩) (by simp) _).setCell (p := ⟨M, 12, none⟩) (by simp) _
  have HKW : Hid (Kept [M] w W) := ((Kept.refl _ _).below bV).trans hKV
  have HTW : Hid (TrIn (fun g => g ≠ M ∧ w.heap.size ≤ g) W (.slice ha1 hn1 hc1) (.slice oa1 on1 oc1) (.slice ga1 gn1 gc1) (.slice pa1 pn1 pc1) T') := (T1.out.below bV1).to (hKV.sameOn (fun g h => by simp; omega)) (fun g _ h => ⟨by omega, h⟩)
  have HQW : Hid (QF W) := HQ.out W _ _ _ _ la1 ne1 fi1 G1.out.1 G1.out.2.1 G1.out.2.2.1 HMW.out HTW.out
  obtain ⟨z0, z1, z2, z3, z4, z5, z6⟩ := HPV.out.sevenc
  clear y0 y1 y2 y3 y4 y5 y6 y7 y8 y9 y10 y11 y12 y13
  obtain ⟨y0, y1, y2, y3, y4, y5, y6, y7, y8, y9, y10, y11, y12, y13⟩ := HMV.out.fourteen
  have fM := HMV.out.free
  have lM := HMV.out.lt
  clear HM HF b1 bV bV1 HMV HPV HQ hKV HTW HMW T1 G1
  go_upto_region 2 with fail
  rw [← hV]
  try rw [← hP]
  clear hV hP
  go_wp2
  rw [← hW]
  go_ret
  exact ⟨rfl, HQW.out, HKW.out⟩

set_option maxHeartbeats 4000000 in
set_option maxRecDepth 100000 in
theorem checkAct_any (kind n : Int) (x : ByteArray) (w : World) :
    Calls Tryz.prog 67 #[.agg #[.int .i64 kind, .int .i64 n, .string x]] w fun e w' => e = .returned (.int .i64 (actE kind n x)) ∧ Below w.heap.size w w' := by
  obtain ⟨E, hE⟩ : ∃ E, E = actE kind n x := ⟨_, rfl⟩
  have HE : Hid (E = if kind < 1 ∨ 5 < kind then 6 else if (¬ kind = 1 ∧ ¬ x = ByteArray.empty) ∨ (kind < 4 ∧ ¬ n = 0) then 1 else 0) := hE
  have HB : Hid (Below w.heap.size w (w.alloc (.cells #[.int .i64 kind, .int .i64 n, .string x] 47))) := (Below.refl _ _).alloc (Nat.le_refl _) _
  rw [← hE]
  clear hE
  go_enter Tryz.func67, Tryz.ntmps67
  by_cases h1 : kind < 1
  · have he : Hid (E = 6) := by show E = _; rw [HE.out, if_pos (.inl h1)]
    go_wp2
    go_ret
    exact ⟨by rw [he.out]; rfl, HB.out⟩
  by_cases h5 : 5 < kind
  · have he : Hid (E = 6) := by show E = _; rw [HE.out, if_pos (.inr h5)]
    go_wp2
    go_ret
    exact ⟨by rw [he.out]; rfl, HB.out⟩
  have HE2 : Hid (E = if (¬ kind = 1 ∧ ¬ x = ByteArray.empty) ∨ (kind < 4 ∧ ¬ n = 0) then 1 else 0) := by show E = _; rw [HE.out, if_neg (by omega)]
  clear HE
  obtain ⟨b, hb⟩ : ∃ b, b = x.toList.isEmpty := ⟨_, rfl⟩
  have HX : Hid (b = true ↔ x = ByteArray.empty) := by
    show _ ↔ _
    rw [hb, ByteArray.toList_eq]
    constructor
    · intro h
      exact ByteArray.ext (Array.ext' (by simpa using h))
    · intro h
      rw [h]; rfl
  have hxb : x.toList.isEmpty = b := hb.symm
  clear hb
  by_cases hn : n = 0
  · subst hn
    have h5 : kind = 1 ∨ kind = 2 ∨ kind = 3 ∨ kind = 4 ∨ kind = 5 := by omega
    rcases h5 with rfl | rfl | rfl | rfl | rfl
    · have he : Hid (E = 0) := by show E = _; rw [HE2.out, if_neg (by simp)]
      clear HX HE2
      cases b
      all_goals
        go_wp2
        go_ret
        exact ⟨by rw [he.out]; rfl, HB.out⟩
    all_goals
      cases b
      · have he : Hid (E = 1) := by
          show E = _
          rw [HE2.out, if_pos (.inl ⟨by decide, fun h => by have := HX.out.2 h; cases this⟩)]
        clear HX HE2
        go_wp2
        go_ret
        exact ⟨by rw [he.out]; rfl, HB.out⟩
      · have he : Hid (E = 0) := by
          show E = _
          rw [HE2.out, if_neg (by rintro (⟨_, h⟩ | ⟨_, h⟩); exact h (HX.out.1 rfl); exact h rfl)]
        clear HX HE2
        go_wp2
        go_ret
        exact ⟨by rw [he.out]; rfl, HB.out⟩
  · have hnb : (n == 0) = false := by simpa using hn
    have h5 : kind = 1 ∨ kind = 2 ∨ kind = 3 ∨ kind = 4 ∨ kind = 5 := by omega
    rcases h5 with rfl | rfl | rfl | rfl | rfl
    iterate 3
      · have he : Hid (E = 1) := by show E = _; rw [HE2.out, if_pos (.inr ⟨by decide, hn⟩)]
        clear HX HE2
        cases b
        all_goals
          go_wp2
          go_ret
          exact ⟨by rw [he.out]; rfl, HB.out⟩
    all_goals
      cases b
      · have he : Hid (E = 1) := by
          show E = _
          rw [HE2.out, if_pos (.inl ⟨by decide, fun h => by have := HX.out.2 h; cases this⟩)]
        clear HX HE2
        go_wp2
        go_ret
        exact ⟨by rw [he.out]; rfl, HB.out⟩
      · have he : Hid (E = 0) := by
          show E = _
          rw [HE2.out, if_neg (by rintro (⟨_, h⟩ | ⟨h, _⟩); exact h (HX.out.1 rfl); exact absurd h (by decide))]
        clear HX HE2
        go_wp2
        go_ret
        exact ⟨by rw [he.out]; rfl, HB.out⟩

set_option maxHeartbeats 4000000 in
set_option maxRecDepth 100000 in
theorem checkViewer_any (v : Vw) (w : World) :
    Calls Tryz.prog 66 #[.agg #[.int .i64 v.m, .int .i64 v.g, .int .i64 v.f, .int .i64 v.l, .int .i64 v.t, .int .i64 v.s]] w fun e w' => e = .returned (.int .i64 v.chk) ∧ Below w.heap.size w w' := by
  obtain ⟨m, g, f, l, t, s⟩ := v
  simp only
  obtain ⟨E, hE⟩ : ∃ E, E = Vw.chk ⟨m, g, f, l, t, s⟩ := ⟨_, rfl⟩
  obtain ⟨C, hC⟩ : ∃ C, C = curE m g f := ⟨_, rfl⟩
  obtain ⟨O, hO⟩ : ∃ C, C = outE l t s := ⟨_, rfl⟩
  obtain ⟨b, hb⟩ : ∃ b, b = (m == 0 && (g == 0 && f == 0)) := ⟨_, rfl⟩
  have HE : Hid (E = if b = true ∨ C = 0 then O else C) := by show E = _; rw [hE, hb, hC, hO]; rfl
  have HC : Hid (∀ U : World, Calls Tryz.prog 109 #[.agg #[.int .i64 m, .int .i64 g, .int .i64 f]] U fun e w' => e = .returned (.int .i64 C) ∧ Below U.heap.size U w') := fun U => by rw [hC]; exact curCheck_any m g f U
  have HO : Hid (∀ U : World, Calls Tryz.prog 56 #[.agg #[.int .i64 l, .int .i64 t, .int .i64 s]] U fun e w' => e = .returned (.int .i64 O) ∧ Below U.heap.size U w') := fun U => by rw [hO]; exact outCheck_any l t s U
  have HU : Hid (∀ U : World, Calls Tryz.prog 77 #[.agg #[.int .i64 m, .int .i64 g, .int .i64 f]] U fun e w' => e = .returned (.bool b) ∧ Below U.heap.size U w') := fun U => by rw [hb]; exact isUnset_any m g f U
  rw [← hE]
  clear hE hC hO hb
  obtain ⟨W, hW⟩ : ∃ W, W = w.alloc (.cells #[.int .i64 m, .int .i64 g, .int .i64 f, .int .i64 l, .int .i64 t, .int .i64 s] 40) := ⟨_, rfl⟩
  have HS : Hid (Stay W (fun U => Blk U w.heap.size #[.int .i64 m, .int .i64 g, .int .i64 f, .int .i64 l, .int .i64 t, .int .i64 s] 40 ∧ Below w.heap.size w U)) := by
    have b : Below w.heap.size w W := by rw [hW]; exact (Below.refl _ w).alloc (Nat.le_refl _) _
    exact (Blk.newE hW).stay.and (below_stay b b.size)
  have six : ∀ {U : World} {a : Nat} {x0 x1 x2 x3 x4 x5 : Value} {t : TypeId}, Blk U a #[x0, x1, x2, x3, x4, x5] t → U.cell? ⟨a, 0, none⟩ = some x0 ∧ U.cell? ⟨a, 1, none⟩ = some x1 ∧ U.cell? ⟨a, 2, none⟩ = some x2 ∧ U.cell? ⟨a, 3, none⟩ = some x3 ∧ U.cell? ⟨a, 4, none⟩ = some x4 ∧ U.cell? ⟨a, 5, none⟩ = some x5 := fun h => ⟨h.cell rfl, h.cell rfl, h.cell rfl, h.cell rfl, h.cell rfl, h.cell rfl⟩
  obtain ⟨y0, y1, y2, y3, y4, y5⟩ := six HS.out.now.1
  go_enter Tryz.func66, Tryz.ntmps66
  go_upto_region 1 with fail
  rw [← hW]
  clear hW
  go_wp2_with fail
  refine (HC.out W).mono ?_
  rintro e w1 ⟨rfl, b1⟩
  have HS1 := Stay.go HS b1
  clear b1 HS HC y0 y1 y2 y3 y4 y5
  obtain ⟨y0, y1, y2, y3, y4, y5⟩ := six HS1.out.now.1
  by_cases h0 : C = 0
  · have he : Hid (E = O) := by show E = _; rw [HE.out, if_pos (.inr h0)]
    have BW : Hid (Below w.heap.size w w1) := HS1.out.now.2
    subst h0
    clear HU HE HS1
    go_wp2_with fail
    refine (HO.out w1).mono ?_
    rintro e w2 ⟨rfl, b2⟩
    have BW2 : Hid (Below w.heap.size w w2) := BW.out.trans (b2.mono BW.out.size)
    clear b2 y0 y1 y2 y3 y4 y5
    go_wp2
    go_ret
    exact ⟨by rw [he.out]; rfl, BW2.out⟩
  · go_wp2_with fail
    refine (HU.out w1).mono ?_
    rintro e w2 ⟨rfl, b2⟩
    have HS2 := Stay.go HS1 b2
    clear b2 HS1 HU y0 y1 y2 y3 y4 y5
    obtain ⟨y0, y1, y2, y3, y4, y5⟩ := six HS2.out.now.1
    have BW : Hid (Below w.heap.size w w2) := HS2.out.now.2
    cases b
    · have he : Hid (E = C) := by show E = _; rw [HE.out, if_neg (by rintro (h | h); cases h; exact h0 h)]
      clear HE HO HS2
      go_wp2
      go_ret
      exact ⟨by rw [he.out]; rfl, BW.out⟩
    · have he : Hid (E = O) := by show E = _; rw [HE.out, if_pos (.inl rfl)]
      clear HE HS2
      go_wp2_with fail
      refine (HO.out w2).mono ?_
      rintro e w3 ⟨rfl, b3⟩
      have BW3 : Hid (Below w.heap.size w w3) := BW.out.trans (b3.mono BW.out.size)
      clear b3 y0 y1 y2 y3 y4 y5
      go_wp2
      go_ret
      exact ⟨by rw [he.out]; rfl, BW3.out⟩

end Go.Proofs.YtnpaejknoipicagGreat

namespace Go.Proofs.YtnpaejknoipicagGreat
open Go.RowKit

section
variable {P : Program} {Q : Exit → Act → World → Prop}

theorem region_mainG {id : Nat} {a : Act} {w : World} {l : List Oper} (hm : P.follows .mixedOrders = true) (hB : regOkG l = true) (ks : List Kd) (c : Nat) (hK : mainOk ks l c a.tmps.size = true)
    (Pm : (Nat → Prop) → Value → World → Prop)
    (hloc : ∀ S r w1 w2, Pm S r w1 → w1.heap.size ≤ w2.heap.size → (∀ g, S g → g < w1.heap.size → w2.heap[g]? = w1.heap[g]?) → Pm S r w2)
    (hstep : ∀ i o, l[i]? = some o → ∀ (a' : Act) (w' : World) (r : Value), Below w.heap.size w w' → (∀ s, (l.all fun o => o.dst != some s) = true → a'.eval (.tmp s) = a.eval (.tmp s)) → (∀ j v, waits l i j = true → (kdAt ks j).val r = some v → a'.eval (.tmp (dstOf l j)) = v) →
      (Region.wanted o (yielded l.toArray a'.tmps) = false ∧ kdAt ks i = .quiet undef) ∨ (Region.wanted o (yielded l.toArray a'.tmps) = true ∧ match kdAt ks i with
      | .quiet v => (execOp a'.eval o).run P w' = .ok (.value v) w'
      | .qcall v => ∃ f args, (execOp a'.eval o).run P w' = .ok (.enter f args) w' ∧ Calls P f args w' fun e w'' => e = .returned v ∧ Below w'.heap.size w' w''
      | .main => ∃ f args, (execOp a'.eval o).run P w' = .ok (.enter f args) w' ∧ Calls P f args w' fun e w'' => ∃ r, e = .returned r ∧ Pm (fun g => g < w''.heap.size ∧ (g < w.heap.size ∨ w'.heap.size ≤ g)) r w'' ∧ Below w'.heap.size w' w''
      | .fin f => ∀ S, Pm S r w' → (execOp a'.eval o).run P w' = .ok (.value (f r)) w'
      | .box t z => (execOp a'.eval o).run P w' = .ok (.value (.pointer (some ⟨w'.heap.size, 0, none⟩))) (w'.alloc (.cells z t))
      | .put b f => ∀ S, Pm S r w' → ∀ t z g C, kdAt ks b = .box t z → Blk w' g C t → C.size = z.size → a'.eval (.tmp (dstOf l b)) = .pointer (some ⟨g, 0, none⟩) → ∃ w'', (execOp a'.eval o).run P w' = .ok .skip w'' ∧ w''.heap.size = w'.heap.size ∧ Blk w'' g (f r) t ∧ (f r).size = z.size ∧ (∀ j, j ≠ g → w''.heap[j]? = w'.heap[j]?) ∧ w''.os = w'.os ∧ w''.tape = w'.tape ∧ w''.output = w'.output))
    (hend : ∀ (r : Value) (gs : Nat → Nat) (S : Nat → Prop) (w' : World), Below w.heap.size w w' → Pm S r w' → (∀ g, S g → g < w'.heap.size) →
      (∀ b t z, b < l.length → kdAt ks b = .box t z → w.heap.size ≤ gs b ∧ ¬ S (gs b) ∧ ∃ C, Blk w' (gs b) C t ∧ ∀ j f, j < l.length → kdAt ks j = .put b f → C = f r) →
      (∀ b b' t z t' z', b < l.length → b' < l.length → b ≠ b' → kdAt ks b = .box t z → kdAt ks b' = .box t' z' → gs b ≠ gs b') → Q .normal (putK r gs 0 ks l a) w') :
    (Code.region id l.toArray true).wp P Q a w := by
  simp only [mainOk, Bool.and_eq_true, decide_eq_true_eq] at hK
  obtain ⟨⟨⟨⟨hlen, hcl⟩, hcm⟩, hdst⟩, hall⟩ := hK
  have hkc : kdAt ks c = .main := by cases h : kdAt ks c <;> rw [h] at hcm <;> first | rfl | cases hcm
  have hap : dstsApart l = true := by simp only [regOkG, Bool.and_eq_true] at hB; exact hB.1
  have hal : ∀ i, i < l.length → _ := fun i hi => List.all_eq_true.1 hall i (List.mem_range.2 hi)
  have hmu : ∀ i, i < l.length → kdAt ks i = .main → i = c := fun i hi hk => by
    have h := hal i hi
    simp only [Bool.and_eq_true] at h
    have h1 := h.1.1
    rw [hk] at h1
    simpa [Kd.isMain] using h1
  have hval : ∀ (L : Array Bool) (vs : Nat → Value) (i j : Nat) (o : Oper), l[i]? = some o → (∀ e ∈ o.after, Region.binds .any e = true → L.getD e.on false = true) → waits l i j = true → L.getD j false = true ∧ ∀ oj k, l[j]? = some oj → oj.dst = some k → (putL L vs 0 l a).eval (.tmp k) = vs j := fun L vs i j o ho hr hw => by
    have h1 := waits_spec hw ho hr
    refine ⟨h1, fun oj k hoj hk => putL_at h1 l 0 a oj hap (Nat.zero_le _) (by simpa using hoj) hk ?_⟩
    have := List.all_eq_true.1 hdst oj (List.mem_of_getElem? hoj)
    rw [hk] at this
    simpa using this
  refine wp_region_invG hm hB (fun L vs w' => RM w ks l.length c Pm (fun j => L.getD j false) vs w') ?_ ?_ ?_
  · have hno : ∀ j, ¬ (Array.replicate l.length false).getD j false = true := fun j => by
      simp [Array.getD_eq_getD_getElem?, Array.getElem?_replicate]; split <;> simp
    exact ⟨⟨rfl, rfl, rfl, Nat.le_refl _, fun _ _ => rfl⟩, fun i h => absurd h (hno i), fun i _ h => absurd h (hno i), fun i h => absurd h (hno i), fun i _ _ h => absurd h (hno i), fun h => absurd h (hno c), fun i _ _ h => absurd h (hno i), fun i _ _ _ _ _ h => absurd h (hno i)⟩
  · intro L vs w' F i o ho hL hr
    have hi : i < l.length := (List.getElem?_eq_some_iff.1 ho).1
    have ni : L.getD i false = false := by simpa using listed_no hL
    have hset := setfun hL
    have hwt := fun j => hval L vs i j o ho hr
    have hfree : ∀ s, (l.all fun o => o.dst != some s) = true → (putL L vs 0 l a).eval (.tmp s) = a.eval (.tmp s) := fun s hs => putL_other l 0 a (fun p hp t ht e => by
      injection e with e
      subst e
      have := List.all_eq_true.1 hs p hp
      rw [ht] at this
      simp at this)
    have hvals : ∀ j v, waits l i j = true → (kdAt ks j).val (vs c) = some v → (putL L vs 0 l a).eval (.tmp (dstOf l j)) = v := fun j v hw hv => by
      obtain ⟨h1, h2⟩ := hwt j hw
      have hjl : j < l.length := F.lt j h1
      have hoj : l[j]? = some l[j] := List.getElem?_eq_getElem hjl
      have h3 := hal j hjl
      simp only [Bool.and_eq_true] at h3
      have h4 := h3.2
      cases hd : l[j].dst with
      | none =>
        have : (l[j]?.map fun o => o.dst.isSome) = some false := by rw [hoj]; simp [hd]
        cases hk : kdAt ks j <;> rw [hk] at hv h4 <;> simp [Kd.val, this] at hv h4
      | some k =>
        rw [show dstOf l j = k by simp [dstOf, hoj, hd], h2 _ k hoj hd]
        exact F.val j v h1 hv
    have hs := hstep i o ho (putL L vs 0 l a) w' (vs c) F.below hfree hvals
    have hdeps := hal i hi
    simp only [Bool.and_eq_true] at hdeps
    rw [hset]
    obtain ⟨ls, hls⟩ : ∃ ls : Nat → Bool, ls = fun j => L.getD j false := ⟨_, rfl⟩
    have hlsj : ∀ j, L.getD j false = ls j := fun j => by rw [hls]
    simp only [hlsj] at F ni hwt ⊢
    have hcne : ∀ k, kdAt ks i = k → k.isMain = false → c ≠ i := fun k h1 h2 e => by subst e; rw [hkc] at h1; subst h1; cases h2
    have hupc : ∀ k v, kdAt ks i = k → k.isMain = false → upd vs i v c = vs c := fun k v h1 h2 => upd_ne (hcne k h1 h2)
    have hlt' : ∀ j, (decide (j = i) || ls j) = true → j < l.length := fun j hj => by
      simp only [Bool.or_eq_true, decide_eq_true_eq] at hj
      rcases hj with rfl | hj
      · exact hi
      · exact F.lt j hj
    have hres : ∀ j, waits l i j = true → (kdAt ks j).isRes = true → ls c = true := fun j hw hk => F.res j (hwt j hw).1 hk
    -- an op that changes no memory and is no main, no box, no put
    have plain : ∀ (k : Kd) (v : Value) (w'' : World), kdAt ks i = k → k.isMain = false → k.isBox = false → k.to = none → Below w'.heap.size w' w'' → (k.val (vs c) = some v) → (k.isRes = true → ls c = true) → RM w ks l.length c Pm (fun j => decide (j = i) || ls j) (upd vs i v) w'' := fun k v w'' hk h1 h2 h3 hb hv hrs => by
      have hsame : ∀ g, g < w'.heap.size → w''.heap[g]? = w'.heap[g]? := hb.block
      refine ⟨F.below.trans (hb.mono F.below.size), hlt', ?_, ?_, ?_, ?_, ?_, ?_⟩
      · intro j u hj hu
        rw [hupc k v hk h1] at hu
        by_cases e : j = i
        · subst e; rw [upd_at]; rw [hk, hv] at hu; injection hu
        · rw [upd_ne e]; exact F.val j u (by simpa [e] using hj) hu
      · intro j hj hjr
        by_cases e : j = i
        · subst e; rw [hk] at hjr; simp [hrs hjr]
        · simp [F.res j (by simpa [e] using hj) hjr]
      · intro j b f hj hjk
        by_cases e : j = i
        · subst e; rw [hk] at hjk; subst hjk; cases h3
        · obtain ⟨e1, e2, e3⟩ := F.put j b f (by simpa [e] using hj) hjk
          rw [upd_ne e]; exact ⟨by simp [e1], by simp [e2], e3⟩
      · intro hc
        have hc' : ls c = true := by simpa [hcne k hk h1] using hc
        obtain ⟨S, e1, e2, e3⟩ := F.main hc'
        rw [hupc k v hk h1]
        refine ⟨S, hloc S _ w' w'' e1 hb.size (fun g _ h => hsame g h), fun g hg => Nat.lt_of_lt_of_le (e2 g hg) hb.size, fun j t z g hj hjk hjv => ?_⟩
        by_cases e : j = i
        · subst e; rw [hk] at hjk; subst hjk; cases h2
        · rw [upd_ne e] at hjv; exact e3 j t z g (by simpa [e] using hj) hjk hjv
      · intro j t z hj hjk
        by_cases e : j = i
        · subst e; rw [hk] at hjk; subst hjk; cases h2
        · obtain ⟨g, C, e1, e2, e3, e4, e5⟩ := F.box j t z (by simpa [e] using hj) hjk
          refine ⟨g, C, by rw [upd_ne e]; exact e1, e2, (hsame g e3.lt).trans e3, e4, fun q f hq hlq => ?_⟩
          rw [hupc k v hk h1]
          by_cases e' : q = i
          · subst e'; rw [hk] at hq; subst hq; cases h3
          · exact e5 q f hq (by simpa [e'] using hlq)
      · intro p q t z t' z' hp hq hpq hpk hqk
        have e1 : p ≠ i := fun e => by subst e; rw [hk] at hpk; subst hpk; cases h2
        have e2 : q ≠ i := fun e => by subst e; rw [hk] at hqk; subst hqk; cases h2
        rw [upd_ne e1, upd_ne e2]
        exact F.apart p q t z t' z' (by simpa [e1] using hp) (by simpa [e2] using hq) hpq hpk hqk
    rcases hs with ⟨hwn, hk⟩ | ⟨hwn, hs⟩
    · exact .inr ⟨hwn, undef, rfl, plain _ undef w' hk rfl rfl rfl (Below.refl _ _) rfl (fun h => by cases h)⟩
    refine .inl ⟨hwn, ?_⟩
    cases hk : kdAt ks i with
    | quiet v =>
      rw [hk] at hs
      exact oper_wp_ok hs ⟨v, rfl, plain _ v w' hk rfl rfl rfl (Below.refl _ _) rfl (fun h => by cases h)⟩
    | fin f =>
      rw [hk] at hs
      have h := hdeps.1.2
      rw [hk] at h
      obtain ⟨j, _, hj⟩ := List.any_eq_true.1 h
      simp only [Bool.and_eq_true] at hj
      have hlc := hres j hj.1 hj.2
      obtain ⟨S, p1, _⟩ := F.main hlc
      exact oper_wp_ok (hs S p1) ⟨_, rfl, plain _ _ w' hk rfl rfl rfl (Below.refl _ _) rfl (fun _ => hlc)⟩
    | qcall v =>
      rw [hk] at hs
      obtain ⟨f, args, h1, h2⟩ := hs
      unfold Oper.wp
      rw [h1, Oper.upon_enter]
      refine h2.mono ?_
      rintro e w'' ⟨rfl, hb⟩
      exact ⟨v, rfl, plain _ v w'' hk rfl rfl rfl hb rfl (fun h => by cases h)⟩
    | main =>
      rw [hk] at hs
      obtain ⟨f, args, h1, h2⟩ := hs
      have hic : i = c := hmu i hi hk
      subst hic
      unfold Oper.wp
      rw [h1, Oper.upon_enter]
      refine h2.mono ?_
      rintro e w'' ⟨r, rfl, hP, hb⟩
      refine ⟨r, rfl, F.below.trans (hb.mono F.below.size), hlt', ?_, fun _ _ _ => by simp, ?_, ?_, ?_, ?_⟩
      · intro j u hj hu
        rw [upd_at] at hu
        by_cases e : j = i
        · subst e; rw [upd_at]; rw [hk] at hu; simpa [Kd.val] using hu
        · rw [upd_ne e]
          have hlj : ls j = true := by simpa [e] using hj
          have hnr : ¬ (kdAt ks j).isRes = true := fun h => by rw [F.res j hlj h] at ni; cases ni
          refine F.val j u hlj ?_
          cases hkj : kdAt ks j <;> rw [hkj] at hu hnr <;> simp [Kd.val, Kd.isRes] at hu hnr ⊢ <;> exact hu
      · intro j b f hj hjk
        by_cases e : j = i
        · subst e; rw [hk] at hjk; cases hjk
        · have := (F.put j b f (by simpa [e] using hj) hjk).1
          rw [this] at ni; cases ni
      · intro _
        rw [upd_at]
        refine ⟨_, hP, fun g hg => hg.1, fun j t z g hj hjk hjv hg => ?_⟩
        by_cases e : j = i
        · subst e; rw [hk] at hjk; cases hjk
        · rw [upd_ne e] at hjv
          obtain ⟨g', C, e1, e2, e3, _⟩ := F.box j t z (by simpa [e] using hj) hjk
          rw [hjv] at e1
          injection e1 with e1; injection e1 with e1; injection e1 with e1
          have := e3.lt
          rcases hg.2 with h | h <;> omega
      · intro j t z hj hjk
        by_cases e : j = i
        · subst e; rw [hk] at hjk; cases hjk
        · obtain ⟨g, C, e1, e2, e3, e4, e5⟩ := F.box j t z (by simpa [e] using hj) hjk
          refine ⟨g, C, by rw [upd_ne e]; exact e1, e2, (hb.block g e3.lt).trans e3, e4, fun q f hq hlq => ?_⟩
          by_cases e' : q = i
          · subst e'; rw [hk] at hq; cases hq
          · have := (F.put q j f (by simpa [e'] using hlq) hq).1
            rw [this] at ni; cases ni
      · intro p q t z t' z' hp hq hpq hpk hqk
        have e1 : p ≠ i := fun e => by subst e; rw [hk] at hpk; cases hpk
        have e2 : q ≠ i := fun e => by subst e; rw [hk] at hqk; cases hqk
        rw [upd_ne e1, upd_ne e2]
        exact F.apart p q t z t' z' (by simpa [e1] using hp) (by simpa [e2] using hq) hpq hpk hqk
    | box t z =>
      rw [hk] at hs
      refine oper_wp_ok hs ⟨_, rfl, ?_⟩
      have hb : Below w'.heap.size w' (w'.alloc (.cells z t)) := (Below.refl _ _).alloc (Nat.le_refl _) _
      have hnew : ∀ j t' z', ls j = true → kdAt ks j = .box t' z' → vs j ≠ .pointer (some ⟨w'.heap.size, 0, none⟩) := fun j t' z' hj hjk e => by
        obtain ⟨g, C, e1, _, e3, _⟩ := F.box j t' z' hj hjk
        rw [e] at e1
        injection e1 with e1; injection e1 with e1; injection e1 with e1
        have := e3.lt; omega
      refine ⟨F.below.trans (hb.mono F.below.size), hlt', ?_, ?_, ?_, ?_, ?_, ?_⟩
      · intro j u hj hu
        rw [hupc _ _ hk rfl] at hu
        by_cases e : j = i
        · subst e; rw [hk] at hu; cases hu
        · rw [upd_ne e]; exact F.val j u (by simpa [e] using hj) hu
      · intro j hj hjr
        by_cases e : j = i
        · subst e; rw [hk] at hjr; cases hjr
        · simp [F.res j (by simpa [e] using hj) hjr]
      · intro j b f hj hjk
        by_cases e : j = i
        · subst e; rw [hk] at hjk; cases hjk
        · obtain ⟨e1, e2, e3⟩ := F.put j b f (by simpa [e] using hj) hjk
          rw [upd_ne e]; exact ⟨by simp [e1], by simp [e2], e3⟩
      · intro hc
        have hc' : ls c = true := by simpa [hcne _ hk rfl] using hc
        obtain ⟨S, e1, e2, e3⟩ := F.main hc'
        rw [hupc _ _ hk rfl]
        refine ⟨S, hloc S _ w' _ e1 hb.size (fun g _ h => hb.block g h), fun g hg => Nat.lt_of_lt_of_le (e2 g hg) hb.size, fun j t z g hj hjk hjv => ?_⟩
        by_cases e : j = i
        · subst e
          rw [upd_at] at hjv
          injection hjv with hjv; injection hjv with hjv; injection hjv with hjv
          intro hg
          have := e2 g hg; omega
        · rw [upd_ne e] at hjv; exact e3 j t z g (by simpa [e] using hj) hjk hjv
      · intro j t' z' hj hjk
        by_cases e : j = i
        · subst e
          rw [hk] at hjk
          injection hjk with h1 h2
          subst h1; subst h2
          refine ⟨w'.heap.size, z, by rw [upd_at], F.below.size, Blk.new _ _ _, rfl, fun q f hq hlq => ?_⟩
          have e' : q ≠ j := fun e' => by subst e'; rw [hk] at hq; cases hq
          have := (F.put q j f (by simpa [e'] using hlq) hq).2.1
          rw [this] at ni; cases ni
        · obtain ⟨g, C, e1, e2, e3, e4, e5⟩ := F.box j t' z' (by simpa [e] using hj) hjk
          refine ⟨g, C, by rw [upd_ne e]; exact e1, e2, (hb.block g e3.lt).trans e3, e4, fun q f hq hlq => ?_⟩
          rw [hupc _ _ hk rfl]
          have e' : q ≠ i := fun e' => by subst e'; rw [hk] at hq; cases hq
          exact e5 q f hq (by simpa [e'] using hlq)
      · intro p q t1 z1 t2 z2 hp hq hpq hpk hqk
        by_cases e1 : p = i
        · have e2 : q ≠ i := fun e => hpq (e1.trans e.symm)
          subst e1
          rw [upd_at, upd_ne e2]
          exact fun e => hnew q _ _ (by simpa [e2] using hq) hqk e.symm
        · by_cases e2 : q = i
          · subst e2
            rw [upd_at, upd_ne e1]
            exact hnew p _ _ (by simpa [e1] using hp) hpk
          · rw [upd_ne e1, upd_ne e2]
            exact F.apart p q _ _ _ _ (by simpa [e1] using hp) (by simpa [e2] using hq) hpq hpk hqk
    | put b f =>
      rw [hk] at hs
      have h := hdeps.1.2
      rw [hk] at h
      simp only [Bool.and_eq_true, decide_eq_true_eq] at h
      obtain ⟨⟨⟨⟨hwb, hbb⟩, hbl⟩, hany⟩, huniq⟩ := h
      obtain ⟨t, z, hkb⟩ : ∃ t z, kdAt ks b = .box t z := by
        cases h : kdAt ks b <;> rw [h] at hbb <;> first | exact ⟨_, _, rfl⟩ | cases hbb
      obtain ⟨hlb, hev⟩ := hwt b hwb
      obtain ⟨g, C, e1, e2, e3, e4, e5⟩ := F.box b t z hlb hkb
      have hob : l[b]? = some l[b] := List.getElem?_eq_getElem hbl
      have hdb : ∃ k, l[b].dst = some k := by
        have h3 := hal b hbl
        simp only [Bool.and_eq_true] at h3
        have h4 := h3.2
        rw [hkb, hob] at h4
        simp at h4
        exact Option.isSome_iff_exists.1 h4
      obtain ⟨k, hdb⟩ := hdb
      have hevb : (putL L vs 0 l a).eval (.tmp (dstOf l b)) = .pointer (some ⟨g, 0, none⟩) := by
        rw [show dstOf l b = k by simp [dstOf, hob, hdb], hev _ k hob hdb, e1]
      have hlc : ls c = true := by
        obtain ⟨j, _, hj⟩ := List.any_eq_true.1 hany
        simp only [Bool.and_eq_true] at hj
        exact hres j hj.1 hj.2
      obtain ⟨S, p1, p2, p3⟩ := F.main hlc
      obtain ⟨w'', hrun, hsz, hblk, hfs, hoth, h1, h2, h3⟩ := hs S p1 t z g C hkb e3 e4 hevb
      have hdn : o.dst = none := by
        have h4 := hdeps.2
        rw [hk, ho] at h4
        simpa using h4
      unfold Oper.wp
      rw [hrun, Oper.upon_skip]
      have hbel : Below w.heap.size w w'' := ⟨h1.trans F.below.os, h2.trans F.below.tape, h3.trans F.below.output, by rw [hsz]; exact F.below.size, fun j hj => by rw [hoth j (by omega)]; exact F.below.block j hj⟩
      refine ⟨undef, rfl, hbel, hlt', ?_, ?_, ?_, ?_, ?_, ?_⟩
      · intro j u hj hu
        rw [hupc _ _ hk rfl] at hu
        by_cases e : j = i
        · subst e; rw [hk] at hu; cases hu
        · rw [upd_ne e]; exact F.val j u (by simpa [e] using hj) hu
      · intro j hj hjr
        simp [hlc]
      · intro j b' f' hj hjk
        by_cases e : j = i
        · subst e
          rw [hk] at hjk
          injection hjk with q1 q2
          subst q1
          exact ⟨by simp [hlc], by simp [hlb], by rw [upd_at]⟩
        · obtain ⟨e1, e2, e3⟩ := F.put j b' f' (by simpa [e] using hj) hjk
          rw [upd_ne e]; exact ⟨by simp [e1], by simp [e2], e3⟩
      · intro _
        rw [hupc _ _ hk rfl]
        refine ⟨S, hloc S _ w' w'' p1 (by omega) (fun g' hg' _ => hoth g' (fun e => p3 b t z g hlb hkb e1 (e ▸ hg'))), fun g' hg' => by have := p2 g' hg'; omega, fun j t' z' g' hj hjk hjv => ?_⟩
        have e : j ≠ i := fun e => by subst e; rw [hk] at hjk; cases hjk
        rw [upd_ne e] at hjv
        exact p3 j t' z' g' (by simpa [e] using hj) hjk hjv
      · intro j t' z' hj hjk
        have e : j ≠ i := fun e => by subst e; rw [hk] at hjk; cases hjk
        have hlj : ls j = true := by simpa [e] using hj
        by_cases ejb : j = b
        · subst ejb
          rw [hkb] at hjk
          injection hjk with q1 q2
          subst q1; subst q2
          refine ⟨g, f (vs c), by rw [upd_ne e]; exact e1, e2, hblk, hfs, fun q f' hq hlq => ?_⟩
          rw [hupc _ _ hk rfl]
          by_cases eq : q = i
          · subst eq
            rw [hk] at hq
            injection hq with _ q2
            rw [q2]
          · have hql : q < l.length := hlt' q hlq
            have h5 := List.all_eq_true.1 huniq q (List.mem_range.2 hql)
            simp [hq, Kd.to, Ne.symm eq] at h5
        · obtain ⟨g', C', p1, p2, p3, p4, p5⟩ := F.box j t' z' hlj hjk
          have hne : g' ≠ g := fun e => F.apart j b t' z' t z hlj hlb ejb hjk hkb (by rw [p1, e1, e])
          refine ⟨g', C', by rw [upd_ne e]; exact p1, p2, (hoth g' hne).trans p3, p4, fun q f' hq hlq => ?_⟩
          rw [hupc _ _ hk rfl]
          by_cases eq : q = i
          · subst eq
            rw [hk] at hq
            injection hq with q1 _
            exact absurd q1.symm ejb
          · exact p5 q f' hq (by simpa [eq] using hlq)
      · intro p q t1 z1 t2 z2 hp hq hpq hpk hqk
        have e1 : p ≠ i := fun e => by subst e; rw [hk] at hpk; cases hpk
        have e2 : q ≠ i := fun e => by subst e; rw [hk] at hqk; cases hqk
        rw [upd_ne e1, upd_ne e2]
        exact F.apart p q _ _ _ _ (by simpa [e1] using hp) (by simpa [e2] using hq) hpq hpk hqk
  · intro L vs w' F hlst
    have hc := hlst c hcl
    obtain ⟨S, p1, p2, p3⟩ := F.main hc
    have hgs : ∃ gs : Nat → Nat, ∀ i t z, i < l.length → kdAt ks i = .box t z → vs i = .pointer (some ⟨gs i, 0, none⟩) := by
      refine ⟨fun i => match vs i with | .pointer (some ad) => ad.block | _ => 0, fun i t z hi hk => ?_⟩
      obtain ⟨g, C, e1, _⟩ := F.box i t z (hlst i hi) hk
      simp [e1]
    obtain ⟨gs, hgs⟩ := hgs
    rw [putL_all L vs (vs c) gs l 0 ks a hlen (fun i hi => by rw [Nat.zero_add]; exact hlst i hi) (fun i hi => ?_)]
    · refine hend (vs c) gs S w' F.below p1 p2 (fun b t z hb hk => ?_) (fun b b' t z t' z' hb hb' hne hk hk' e => ?_)
      · obtain ⟨g, C, e1, e2, e3, e4, e5⟩ := F.box b t z (hlst b hb) hk
        have e6 := hgs b t z hb hk
        rw [e6] at e1
        injection e1 with e1; injection e1 with e1; injection e1 with e1
        rw [e1]
        refine ⟨e2, ?_, C, e3, fun j f hj hjk => e5 j f hjk (hlst j hj)⟩
        rw [← e1]
        exact p3 b t z (gs b) (hlst b hb) hk e6
      · exact F.apart b b' t z t' z' (hlst b hb) (hlst b' hb') hne hk hk' (by rw [hgs b t z hb hk, hgs b' t' z' hb' hk', e])
    · rw [Nat.zero_add]
      cases hk : kdAt ks i with
      | box t z => exact hgs i t z hi hk
      | put b f => exact (F.put i b f (hlst i hi) hk).2.2
      | quiet v => exact F.val i _ (hlst i hi) (by rw [hk]; rfl)
      | qcall v => exact F.val i _ (hlst i hi) (by rw [hk]; rfl)
      | main => exact F.val i _ (hlst i hi) (by rw [hk]; rfl)
      | fin f => exact F.val i _ (hlst i hi) (by rw [hk]; rfl)
end
end Go.Proofs.YtnpaejknoipicagGreat
