/-
  The walk of switchbacklaw.CursorTells.
-/
import Derived.Test.YtnpaejknoipicaeMgCursorTells2
import Derived.Test.YtnpaejknoipicaeMgCursorTells2
import Derived.Test.YtnpaejknoipicaeMgCursorTells2
import Derived.Test.YtnpaejknoipicaeMgCursorTells2
import Derived.Lib.QuietBelow
import Derived.Deep.DeepCutAuto
namespace Go.Proofs.Ytnpaejknoipicae
open Go.RowKit Go.Sort

/-- five boxes in a row: four cursors and a frame -/
def FiveB (z : Nat) (w : World) (a0 a1 a2 b0 b1 b2 c0 c1 c2 d0 d1 d2 t : Int) (k : Bool) (pv : Value) : Prop :=
  Blk w z #[.int .i64 a0, .int .i64 a1, .int .i64 a2] 41 ∧ Blk w (z + 1) #[.int .i64 b0, .int .i64 b1, .int .i64 b2] 41 ∧ Blk w (z + 1 + 1) #[.int .i64 c0, .int .i64 c1, .int .i64 c2] 41 ∧ Blk w (z + 1 + 1 + 1) #[.int .i64 d0, .int .i64 d1, .int .i64 d2] 41 ∧ Blk w (z + 1 + 1 + 1 + 1) #[.int .i64 t, .bool k, pv] 39
section
variable {z : Nat} {w w' : World} {a0 a1 a2 b0 b1 b2 c0 c1 c2 d0 d1 d2 t : Int} {k : Bool} {pv : Value}
theorem FiveB.below (h : FiveB z w a0 a1 a2 b0 b1 b2 c0 c1 c2 d0 d1 d2 t k pv) (hb : Below w.heap.size w w') : FiveB z w' a0 a1 a2 b0 b1 b2 c0 c1 c2 d0 d1 d2 t k pv :=
  ⟨h.1.below hb h.1.lt, h.2.1.below hb h.2.1.lt, h.2.2.1.below hb h.2.2.1.lt, h.2.2.2.1.below hb h.2.2.2.1.lt, h.2.2.2.2.below hb h.2.2.2.2.lt⟩
theorem Blk.other3 {b b' : Nat} {C : Array Value} {u : TypeId} (h : Blk w b C u) (hne : b ≠ b') (y0 y1 y2 : Value) : Blk (((w.setCell ⟨b', 0, none⟩ y0).setCell ⟨b', 1, none⟩ y1).setCell ⟨b', 2, none⟩ y2) b C u :=
  ((h.other (a := ⟨b', 0, none⟩) hne y0).other (a := ⟨b', 1, none⟩) hne y1).other (a := ⟨b', 2, none⟩) hne y2
theorem FiveB.setA (h : FiveB z w a0 a1 a2 b0 b1 b2 c0 c1 c2 d0 d1 d2 t k pv) (x0 x1 x2 : Int) : FiveB z (((w.setCell ⟨z, 0, none⟩ (.int .i64 x0)).setCell ⟨z, 1, none⟩ (.int .i64 x1)).setCell ⟨z, 2, none⟩ (.int .i64 x2)) x0 x1 x2 b0 b1 b2 c0 c1 c2 d0 d1 d2 t k pv :=
  ⟨h.1.put3 _ _ _, h.2.1.other3 (by omega) _ _ _, h.2.2.1.other3 (by omega) _ _ _, h.2.2.2.1.other3 (by omega) _ _ _, h.2.2.2.2.other3 (by omega) _ _ _⟩
theorem FiveB.setB (h : FiveB z w a0 a1 a2 b0 b1 b2 c0 c1 c2 d0 d1 d2 t k pv) (x0 x1 x2 : Int) : FiveB z (((w.setCell ⟨z + 1, 0, none⟩ (.int .i64 x0)).setCell ⟨z + 1, 1, none⟩ (.int .i64 x1)).setCell ⟨z + 1, 2, none⟩ (.int .i64 x2)) a0 a1 a2 x0 x1 x2 c0 c1 c2 d0 d1 d2 t k pv :=
  ⟨h.1.other3 (by omega) _ _ _, h.2.1.put3 _ _ _, h.2.2.1.other3 (by omega) _ _ _, h.2.2.2.1.other3 (by omega) _ _ _, h.2.2.2.2.other3 (by omega) _ _ _⟩
theorem FiveB.setC (h : FiveB z w a0 a1 a2 b0 b1 b2 c0 c1 c2 d0 d1 d2 t k pv) (x0 x1 x2 : Int) : FiveB z (((w.setCell ⟨z + 1 + 1, 0, none⟩ (.int .i64 x0)).setCell ⟨z + 1 + 1, 1, none⟩ (.int .i64 x1)).setCell ⟨z + 1 + 1, 2, none⟩ (.int .i64 x2)) a0 a1 a2 b0 b1 b2 x0 x1 x2 d0 d1 d2 t k pv :=
  ⟨h.1.other3 (by omega) _ _ _, h.2.1.other3 (by omega) _ _ _, h.2.2.1.put3 _ _ _, h.2.2.2.1.other3 (by omega) _ _ _, h.2.2.2.2.other3 (by omega) _ _ _⟩
theorem FiveB.setD (h : FiveB z w a0 a1 a2 b0 b1 b2 c0 c1 c2 d0 d1 d2 t k pv) (x0 x1 x2 : Int) : FiveB z (((w.setCell ⟨z + 1 + 1 + 1, 0, none⟩ (.int .i64 x0)).setCell ⟨z + 1 + 1 + 1, 1, none⟩ (.int .i64 x1)).setCell ⟨z + 1 + 1 + 1, 2, none⟩ (.int .i64 x2)) a0 a1 a2 b0 b1 b2 c0 c1 c2 x0 x1 x2 t k pv :=
  ⟨h.1.other3 (by omega) _ _ _, h.2.1.other3 (by omega) _ _ _, h.2.2.1.other3 (by omega) _ _ _, h.2.2.2.1.put3 _ _ _, h.2.2.2.2.other3 (by omega) _ _ _⟩
theorem FiveB.setE (h : FiveB z w a0 a1 a2 b0 b1 b2 c0 c1 c2 d0 d1 d2 t k pv) (x0 : Int) (x1 : Bool) (x2 : Value) : FiveB z (((w.setCell ⟨z + 1 + 1 + 1 + 1, 0, none⟩ (.int .i64 x0)).setCell ⟨z + 1 + 1 + 1 + 1, 1, none⟩ (.bool x1)).setCell ⟨z + 1 + 1 + 1 + 1, 2, none⟩ x2) a0 a1 a2 b0 b1 b2 c0 c1 c2 d0 d1 d2 x0 x1 x2 :=
  ⟨h.1.other3 (by omega) _ _ _, h.2.1.other3 (by omega) _ _ _, h.2.2.1.other3 (by omega) _ _ _, h.2.2.2.1.other3 (by omega) _ _ _, h.2.2.2.2.put3 _ _ _⟩
end
theorem five_new (V : World) (z : Nat) (hz : z = V.heap.size) {W : World} (hW : W = ((((V.alloc (.cells #[.int .i64 0, .int .i64 0, .int .i64 0] 41)).alloc (.cells #[.int .i64 0, .int .i64 0, .int .i64 0] 41)).alloc (.cells #[.int .i64 0, .int .i64 0, .int .i64 0] 41)).alloc (.cells #[.int .i64 0, .int .i64 0, .int .i64 0] 41)).alloc (.cells #[.int .i64 0, .bool false, .slice none 0 0] 39)) :
    FiveB z W 0 0 0 0 0 0 0 0 0 0 0 0 0 false (.slice none 0 0) ∧ Below V.heap.size V W := by
  subst hz
  obtain ⟨V1, h1⟩ : ∃ V1, V1 = V.alloc (.cells #[.int .i64 0, .int .i64 0, .int .i64 0] 41) := ⟨_, rfl⟩
  obtain ⟨V2, h2⟩ : ∃ V2, V2 = V1.alloc (.cells #[.int .i64 0, .int .i64 0, .int .i64 0] 41) := ⟨_, rfl⟩
  obtain ⟨V3, h3⟩ : ∃ V3, V3 = V2.alloc (.cells #[.int .i64 0, .int .i64 0, .int .i64 0] 41) := ⟨_, rfl⟩
  obtain ⟨V4, h4⟩ : ∃ V4, V4 = V3.alloc (.cells #[.int .i64 0, .int .i64 0, .int .i64 0] 41) := ⟨_, rfl⟩
  rw [← h1, ← h2, ← h3, ← h4] at hW
  have s1 : V1.heap.size = V.heap.size + 1 := by rw [h1]; simp
  have s2 : V2.heap.size = V.heap.size + 1 + 1 := by rw [h2, World.size_alloc, s1]
  have s3 : V3.heap.size = V.heap.size + 1 + 1 + 1 := by rw [h3, World.size_alloc, s2]
  have s4 : V4.heap.size = V.heap.size + 1 + 1 + 1 + 1 := by rw [h4, World.size_alloc, s3]
  have q1 := Blk.newE h1
  have q2 := Blk.newE h2
  have q3 := Blk.newE h3
  have q4 := Blk.newE h4
  have q5 := Blk.newE hW
  rw [s1] at q2
  rw [s2] at q3
  rw [s3] at q4
  rw [s4] at q5
  have b12 : Below V.heap.size V V1 := by rw [h1]; exact (Below.refl _ _).alloc (Nat.le_refl _) _
  have b22 : Below V1.heap.size V1 V2 := by rw [h2]; exact (Below.refl _ _).alloc (Nat.le_refl _) _
  have b32 : Below V2.heap.size V2 V3 := by rw [h3]; exact (Below.refl _ _).alloc (Nat.le_refl _) _
  have b42 : Below V3.heap.size V3 V4 := by rw [h4]; exact (Below.refl _ _).alloc (Nat.le_refl _) _
  have b52 : Below V4.heap.size V4 W := by rw [hW]; exact (Below.refl _ _).alloc (Nat.le_refl _) _
  refine ⟨⟨(((q1.below b22 q1.lt).below b32 (by omega)).below b42 (by omega)).below b52 (by omega), ((q2.below b32 q2.lt).below b42 (by omega)).below b52 (by omega), (q3.below b42 q3.lt).below b52 (by omega), q4.below b52 q4.lt, q5⟩, ?_⟩
  exact (((b12.trans (b22.mono (by omega))).trans (b32.mono (by omega))).trans (b42.mono (by omega))).trans (b52.mono (by omega))

set_option maxHeartbeats 16000000 in
set_option maxRecDepth 100000 in
theorem cursorTells_any (first : Int) (gv ov : Value) (L : List (List Fr)) (O : List Fr) (m g f t upto : Int) (w : World) (hg : GrsIn (fun _ => True) w gv L) (ho : FrsIn (fun _ => True) w ov O) :
    Calls Try.prog 6 #[.agg #[.int .i64 first, gv, ov], .agg #[.int .i64 m, .int .i64 g, .int .i64 f], .int .i64 t, .int .i64 upto] w fun e w' => e = .returned (.bool true) ∧ Below w.heap.size w w' := by
  obtain ⟨ga, gc, eg, _, _⟩ := hg.len
  obtain ⟨oa, oc, eo, _, _⟩ := ho.len
  obtain ⟨ln, hln⟩ : ∃ n, n = L.length := ⟨_, rfl⟩
  obtain ⟨lo, hlo⟩ : ∃ n, n = O.length := ⟨_, rfl⟩
  rw [← hln] at eg
  rw [← hlo] at eo
  obtain ⟨U, hU⟩ : ∃ E, E = stchk first L O := ⟨_, rfl⟩
  obtain ⟨A, hA⟩ : ∃ A, A = allG L O := ⟨_, rfl⟩
  obtain ⟨q, hq⟩ : ∃ n, n = A.length := ⟨_, rfl⟩
  obtain ⟨EL, hEL⟩ : ∃ E, E = seekE first L O 1000000 := ⟨_, rfl⟩
  obtain ⟨ML, hML⟩ : ∃ E, E = begM first L O 1 1000000 := ⟨_, rfl⟩
  obtain ⟨NL, hNL⟩ : ∃ E, E = seekN first L O 1000000 := ⟨_, rfl⟩
  obtain ⟨ES, hES⟩ : ∃ E, E = seekE first L O t := ⟨_, rfl⟩
  obtain ⟨MS, hMS⟩ : ∃ E, E = begM first L O 3 t := ⟨_, rfl⟩
  obtain ⟨NS, hNS⟩ : ∃ E, E = seekN first L O t := ⟨_, rfl⟩
  obtain ⟨EP, hEP⟩ : ∃ E, E = curE m g f := ⟨_, rfl⟩
  obtain ⟨P0, hP0⟩ : ∃ E, E = pauN m g f 2 := ⟨_, rfl⟩
  obtain ⟨P1, hP1⟩ : ∃ E, E = pauN m g f g := ⟨_, rfl⟩
  obtain ⟨P2, hP2⟩ : ∃ E, E = pauN m g f f := ⟨_, rfl⟩
  obtain ⟨E, hE⟩ : ∃ E, E = nxE first L O m g f upto := ⟨_, rfl⟩
  obtain ⟨K, hK⟩ : ∃ E, E = nxK first L O m g f upto := ⟨_, rfl⟩
  obtain ⟨T, hT⟩ : ∃ E, E = nxT first L O m g f upto := ⟨_, rfl⟩
  obtain ⟨X, hX⟩ : ∃ E, E = nxX first L O m g f upto := ⟨_, rfl⟩
  obtain ⟨dM, hdM⟩ : ∃ E, E = nxM first L O m g f upto := ⟨_, rfl⟩
  obtain ⟨dG, hdG⟩ : ∃ E, E = nxG first L O m g f upto := ⟨_, rfl⟩
  obtain ⟨dF, hdF⟩ : ∃ E, E = nxF first L O m g f upto := ⟨_, rfl⟩
  obtain ⟨xt, hxt⟩ : ∃ E, E = X.time := ⟨_, rfl⟩
  obtain ⟨xk, hxk⟩ : ∃ E, E = X.key := ⟨_, rfl⟩
  obtain ⟨xn, hxn⟩ : ∃ E, E = X.parts.length := ⟨_, rfl⟩
  obtain ⟨C, hC⟩ : ∃ b : Bool, b = decide (U = 0 ∧ (t < 0 ∨ 1000000 < t)) := ⟨_, rfl⟩
  obtain ⟨XS, hXS⟩ : ∃ E : Int, E = if C then 3 else U := ⟨_, rfl⟩
  obtain ⟨Y, hY⟩ : ∃ E : Int, E = if U = 0 then EP else U := ⟨_, rfl⟩
  obtain ⟨D, hD⟩ : ∃ b : Bool, b = decide (Y = 0 ∧ (upto < 0 ∨ 1000000 < upto)) := ⟨_, rfl⟩
  have HLV : Hid (∀ V : World, Below w.heap.size w V → Calls Try.prog 13 #[.agg #[.int .i64 first, gv, ov]] V fun e w' => e = .returned (.tuple #[.agg #[.int .i64 ML, .int .i64 NL, .int .i64 0], .int .i64 EL]) ∧ Below V.heap.size V w') := fun V hV => by
    rw [hML, hNL, hEL]; exact live_any first gv ov L O V (hg.below hV) (ho.below hV)
  have HSK : Hid (∀ V : World, Below w.heap.size w V → Calls Try.prog 20 #[.agg #[.int .i64 first, gv, ov], .int .i64 t] V fun e w' => e = .returned (.tuple #[.agg #[.int .i64 MS, .int .i64 NS, .int .i64 0], .int .i64 ES]) ∧ Below V.heap.size V w') := fun V hV => by
    rw [hMS, hNS, hES]; exact curSeek_any first gv ov L O t V (hg.below hV) (ho.below hV)
  have HPA : Hid (∀ V : World, Calls Try.prog 21 #[.agg #[.int .i64 m, .int .i64 g, .int .i64 f]] V fun e w' => e = .returned (.tuple #[.agg #[.int .i64 P0, .int .i64 P1, .int .i64 P2], .int .i64 EP]) ∧ Below V.heap.size V w') := fun V => by
    rw [hP0, hP1, hP2, hEP]; exact pause_any m g f V
  have HNX : Hid (∀ V : World, Below w.heap.size w V → Calls Try.prog 17 #[.agg #[.int .i64 first, gv, ov], .agg #[.int .i64 m, .int .i64 g, .int .i64 f], .int .i64 upto] V fun e w' => ∃ xa xc, e = .returned (.tuple #[.agg #[.int .i64 dM, .int .i64 dG, .int .i64 dF], .agg #[.int .i64 xt, .bool xk, .slice xa xn xc], .bool K, .bool T, .int .i64 E]) ∧ Hid (StrsIn (fun _ => True) w' (.slice xa xn xc) X.parts) ∧ Below V.heap.size V w') := fun V hV => by
    refine (next_any first gv ov L O m g f upto V (hg.below hV) (ho.below hV)).mono ?_
    rintro e w' ⟨pv, rfl, hs, hb⟩
    rw [← hX] at hs
    obtain ⟨xa, xc, ex⟩ := hs.1.len
    rw [← hxn] at ex
    subst ex
    rw [← hX, ← hE, ← hK, ← hT, ← hdM, ← hdG, ← hdF, ← hxt, ← hxk]
    exact ⟨xa, xc, rfl, hs.mono (fun _ _ _ => trivial), hb⟩
  have HCKR : Hid (∀ V : World, Below w.heap.size w V → Calls Try.prog 22 #[.agg #[.int .i64 first, gv, ov]] V fun e w' => e = .returned (.int .i64 U) ∧ Below V.heap.size V w') := fun V hV => by
    rw [hU]; exact refCheckStore_any _ first gv ov L O V (hg.below hV) (ho.below hV)
  have HCCR : Hid (∀ V : World, Calls Try.prog 23 #[.agg #[.int .i64 m, .int .i64 g, .int .i64 f]] V fun e w' => e = .returned (.int .i64 EP) ∧ Below V.heap.size V w') := fun V => by
    rw [hEP]; exact refCheckCursor_any m g f V
  have HCK : Hid (∀ V : World, Calls Try.prog 26 #[.agg #[.int .i64 m, .int .i64 g, .int .i64 f]] V fun e w' => e = .returned (.int .i64 EP) ∧ Below V.heap.size V w') := fun V => by
    rw [hEP]; exact curCheck_any m g f V
  have HALL : Hid (U = 0 → ∀ V : World, Below w.heap.size w V → Calls Try.prog 16 #[.agg #[.int .i64 first, gv, ov]] V fun e w' => ∃ a c, e = .returned (.slice a q c) ∧ Below V.heap.size V w') := fun h0 V hV => by
    have hr : stchk first L O = 0 := by rw [← hU]; exact h0
    obtain ⟨_, _, h3, _⟩ := stchk_zero.1 hr
    refine (allOf_in (fun _ => True) first gv ov L O V (hg.below hV) (ho.below hV) (by omega)).mono ?_
    rintro e w' ⟨v', rfl, h4, h5⟩
    rw [← hA] at h4
    obtain ⟨a, c, e, _, _⟩ := h4.len
    rw [← hq] at e
    subst e
    exact ⟨a, c, rfl, h5⟩
  have HRS : Hid (U = 0 → C = false → ∀ V : World, Below w.heap.size w V → Calls Try.prog 24 #[.agg #[.int .i64 first, gv, ov], .int .i64 t] V fun e w' => e = .returned (.tuple #[.int .i64 NS, .bool (decide (0 < q))]) ∧ Below V.heap.size V w') := fun h0 h1 V hV => by
    have hr : stchk first L O = 0 := by rw [← hU]; exact h0
    rw [hC, decide_eq_false_iff_not] at h1
    have := seekOf_any first gv ov L O t V (hg.below hV) (ho.below hV) hr
    rw [← hA, ← hq] at this
    have he : seekE first L O t = if q = 0 then 5 else 0 := by
      unfold seekE; rw [if_pos hr, if_neg (by omega), if_neg (by omega), ← hA, ← hq]
    have hN : NS = if q = 0 then 0 else first + seekI A t (q - 1) := by
      rw [hNS]; unfold seekN
      rw [he, ← hA, ← hq]
      by_cases h0 : q = 0
      · rw [if_pos h0, if_pos h0, if_neg (by decide)]
      · rw [if_neg h0, if_neg h0, if_pos rfl]
    rw [hN]
    exact this
  have HRN : Hid (E = 0 → ∀ V : World, Below w.heap.size w V → Calls Try.prog 25 #[.agg #[.int .i64 first, gv, ov], .agg #[.int .i64 m, .int .i64 g, .int .i64 f], .int .i64 upto] V fun e w' => ∃ xa xc, e = .returned (.tuple #[.agg #[.int .i64 dM, .int .i64 dG, .int .i64 dF], .agg #[.int .i64 xt, .bool xk, .slice xa xn xc], .bool K, .bool T]) ∧ Hid (StrsIn (fun _ => True) w' (.slice xa xn xc) X.parts) ∧ Below V.heap.size V w') := fun h0 V hV => by
    have hz : nxE first L O m g f upto = 0 := by rw [← hE]; exact h0
    obtain ⟨z1, z2, _, _⟩ := nxE_zero.1 hz
    refine (refNextOf_any first gv ov L O m g f upto V (hg.below hV) (ho.below hV) z1 z2).mono ?_
    rintro e w' ⟨c0, c1, c2, x, pv, ok, turn, rfl, hs, hr, hb⟩
    have key : c0 = dM ∧ c1 = dG ∧ c2 = dF ∧ x = X ∧ ok = K ∧ turn = T := by
      cases hn : nxt m (allG L O) (g - first) f upto with
      | none =>
        rw [hn] at hr
        obtain ⟨r1, r2, r3, r4, r5, r6⟩ := hr
        obtain ⟨s1, s2, s3, s4, s5, s6⟩ := nx_none hz hn
        exact ⟨by rw [r1, hdM, s1], by rw [r2, hdG, s2], by rw [r3, hdF, s3], by rw [r4, hX, s4], by rw [r5, hK, s5], by rw [r6, hT, s6]⟩
      | some p =>
        obtain ⟨k, j, tn⟩ := p
        rw [hn] at hr
        obtain ⟨r1, r2, r3, r4, r5, r6⟩ := hr
        obtain ⟨s1, s2, s3, s4, s5, s6, _⟩ := nx_some hz hn
        exact ⟨by rw [r1, hdM, s1], by rw [r2, hdG, s2], by rw [r3, hdF, s3], by rw [r4, hX, s4], by rw [r5, hK, s5], by rw [r6, hT, s6]⟩
    obtain ⟨e0, e1, e2, e3, e4, e5⟩ := key
    rw [e3] at hs
    obtain ⟨xa, xc, ex⟩ := hs.1.len
    rw [← hxn] at ex
    subst ex
    rw [e0, e1, e2, e3, e4, e5, ← hxt, ← hxk]
    exact ⟨xa, xc, rfl, hs, hb⟩
  have HL : Hid ((¬ U = 0 → EL = U ∧ ML = 0 ∧ NL = 0) ∧ (U = 0 → 0 ≤ first ∧ first ≤ 100000 ∧ q ≤ 6 ∧ (q = 0 → EL = 5 ∧ ML = 0 ∧ NL = 0) ∧ (¬ q = 0 → EL = 0 ∧ ML = 1 ∧ first + (q : Int) - 1 = NL))) := by
    refine ⟨fun h => ?_, fun h => ?_⟩
    · have e : EL = U := by rw [hEL]; unfold seekE; rw [← hU, if_neg h]
      refine ⟨e, by rw [hML]; unfold begM; rw [← hEL, e, if_neg h], by rw [hNL]; unfold seekN; rw [← hEL, e, if_neg h]⟩
    · have hr : stchk first L O = 0 := by rw [← hU]; exact h
      obtain ⟨h1, h2, h3, _⟩ := stchk_zero.1 hr
      have hl := seek_last hr
      rw [← hA, ← hq, ← hNL] at hl
      refine ⟨h1, h2, by rw [hq, hA]; exact allG_len L O h3, fun h0 => ?_, fun h0 => ?_⟩
      · have e : EL = 5 := by rw [hEL]; unfold seekE; rw [if_pos hr, if_neg (by omega), if_neg (by omega), ← hA, ← hq, if_pos h0]
        exact ⟨e, by rw [hML]; unfold begM; rw [← hEL, e, if_neg (by decide)], by rw [hl, if_pos h0]⟩
      · have e : EL = 0 := by rw [hEL]; unfold seekE; rw [if_pos hr, if_neg (by omega), if_neg (by omega), ← hA, ← hq, if_neg h0]
        exact ⟨e, by rw [hML]; unfold begM; rw [← hEL, e, if_pos rfl], by rw [hl, if_neg h0]; omega⟩
  have HSS : Hid ((¬ XS = 0 → ES = XS ∧ MS = 0 ∧ NS = 0) ∧ (XS = 0 → U = 0 ∧ C = false ∧ (q = 0 → ES = 5 ∧ MS = 0 ∧ NS = 0) ∧ (¬ q = 0 → ES = 0 ∧ MS = 3))) := by
    have hb : ¬ ES = 0 → MS = 0 ∧ NS = 0 := fun h => ⟨by rw [hMS]; unfold begM; rw [← hES, if_neg h], by rw [hNS]; unfold seekN; rw [← hES, if_neg h]⟩
    constructor
    · intro h
      have e : ES = XS := by
        rw [hES]; unfold seekE
        rw [hXS] at h ⊢
        rw [← hU]
        by_cases h0 : U = 0
        · rw [if_pos h0]
          by_cases h1 : t < 0
          · rw [if_pos h1, hC, decide_eq_true ⟨h0, .inl h1⟩]; rfl
          · rw [if_neg h1]
            by_cases h2 : 1000000 < t
            · rw [if_pos h2, hC, decide_eq_true ⟨h0, .inr h2⟩]; rfl
            · rw [hC, decide_eq_false (by omega), if_neg (by decide)] at h; exact absurd h0 h
        · rw [if_neg h0, hC, decide_eq_false (fun h => h0 h.1)]; rfl
      exact ⟨e, hb (by rw [e]; exact h)⟩
    · intro hx
      rw [hXS] at hx
      by_cases hc : U = 0 ∧ (t < 0 ∨ 1000000 < t)
      · rw [hC, decide_eq_true hc, if_pos rfl] at hx; cases hx
      · have hcf : C = false := by rw [hC]; exact decide_eq_false hc
        rw [hcf, if_neg (by decide)] at hx
        have hr : stchk first L O = 0 := by rw [← hU]; exact hx
        refine ⟨hx, hcf, fun h => ?_, fun h => ?_⟩
        · have e : ES = 5 := by rw [hES]; unfold seekE; rw [if_pos hr, if_neg (by omega), if_neg (by omega), ← hA, ← hq, if_pos h]
          exact ⟨e, hb (by rw [e]; decide)⟩
        · have e : ES = 0 := by rw [hES]; unfold seekE; rw [if_pos hr, if_neg (by omega), if_neg (by omega), ← hA, ← hq, if_neg h]
          exact ⟨e, by rw [hMS]; unfold begM; rw [← hES, e, if_pos rfl]⟩
  have HPP : Hid ((¬ EP = 0 → P0 = 0 ∧ P1 = 0 ∧ P2 = 0) ∧ (EP = 0 → P0 = 2 ∧ P1 = g ∧ P2 = f)) := by
    rw [hP0, hP1, hP2, hEP]; unfold pauN
    exact ⟨fun h => ⟨if_neg h, if_neg h, if_neg h⟩, fun h => ⟨if_pos h, if_pos h, if_pos h⟩⟩
  have HEE : Hid (E = if D then 3 else Y) := by
    show E = _
    rw [hE]; unfold nxE
    rw [hD, hY, ← hU, ← hEP]
    by_cases h0 : U = 0
    · rw [if_pos h0, if_pos h0]
      by_cases h1 : EP = 0
      · rw [if_pos h1]
        by_cases h2 : upto < 0
        · rw [if_pos h2, decide_eq_true ⟨h1, .inl h2⟩, if_pos rfl]
        · rw [if_neg h2]
          by_cases h3 : 1000000 < upto
          · rw [if_pos h3, decide_eq_true ⟨h1, .inr h3⟩, if_pos rfl]
          · rw [if_neg h3, decide_eq_false (by omega), if_neg (by decide), h1]
      · rw [if_neg h1, decide_eq_false (fun h => h1 h.1), if_neg (by decide)]
    · rw [if_neg h0, if_neg h0, decide_eq_false (fun h => h0 h.1), if_neg (by decide)]
  have HNB : Hid (¬ E = 0 → dM = 0 ∧ dG = 0 ∧ dF = 0 ∧ xt = 0 ∧ xk = false ∧ xn = 0 ∧ X.parts = [] ∧ K = false ∧ T = false) := fun h => by
    obtain ⟨b1, b2, b3, b4, b5, b6⟩ := nx_bad (first := first) (L := L) (O := O) (m := m) (g := g) (f := f) (upto := upto) (by rw [← hE]; exact h)
    rw [← hX] at b4
    exact ⟨by rw [hdM, b1], by rw [hdG, b2], by rw [hdF, b3], by rw [hxt, b4]; rfl, by rw [hxk, b4]; rfl, by rw [hxn, b4]; rfl, by rw [b4]; rfl, by rw [hK, b5], by rw [hT, b6]⟩
  have HS : Hid (Stay w (fun V => Below w.heap.size w V)) := below_stay0 w
  have HCC : Hid (C = decide (U = 0 ∧ (t < 0 ∨ 1000000 < t))) := hC
  have HDD : Hid (D = decide (Y = 0 ∧ (upto < 0 ∨ 1000000 < upto))) := hD
  have HXS : Hid (XS = if C then 3 else U) := hXS
  have HYY : Hid (Y = if U = 0 then EP else U) := hY
  clear hg ho hU hA hq hEL hML hNL hES hMS hNS hEP hP0 hP1 hP2 hE hK hT hX hdM hdG hdF hxt hxk hxn hC hXS hY hD hln hlo
  subst eg eo
  go_enter Try.func6, Try.ntmps6
  go_wp2_with fail
  obtain ⟨W0, hW0⟩ : ∃ W0, W0 = (w.alloc (.cells #[.int .i64 first, .slice ga ln gc, .slice oa lo oc] 36)).alloc (.cells #[.int .i64 m, .int .i64 g, .int .i64 f] 41) := ⟨_, rfl⟩
  have HS0 : Hid (Stay W0 (fun V => (Blk V w.heap.size #[.int .i64 first, .slice ga ln gc, .slice oa lo oc] 36 ∧ Blk V (w.heap.size + 1) #[.int .i64 m, .int .i64 g, .int .i64 f] 41) ∧ Below w.heap.size w V)) := by
    have k2 := Blk.newE hW0
    simp only [World.size_alloc] at k2
    have hb : Below w.heap.size w W0 := by rw [hW0]; exact ((Below.refl _ _).alloc (Nat.le_refl _) _).alloc (by simp) _
    exact ((show Blk W0 w.heap.size _ _ by rw [hW0]; exact (Blk.new _ _ _).alloc _).stay.and k2.stay).and (below_stay hb hb.size)
  rw [← hW0]
  clear hW0 HS
  refine (HLV.out _ HS0.out.now.2).mono ?_
  rintro e w1 ⟨rfl, b1⟩
  obtain ⟨W1, hW1⟩ : ∃ W, W = w1.alloc (.cells #[.int .i64 ML, .int .i64 NL, .int .i64 0] 41) := ⟨_, rfl⟩
  have HS1 := Stay.allocE (Stay.go HS0 b1) hW1
  have HA1 : Hid (Stay W1 (fun V => Blk V w1.heap.size #[.int .i64 ML, .int .i64 NL, .int .i64 0] 41)) := (Blk.newE hW1).stay
  clear b1 HS0 HLV
  obtain ⟨k0, k1, k2⟩ := HS1.out.now.1.1.three
  go_upto_region 2 with fail
  rw [← hW1]
  clear hW1
  go_wp2_with fail
  refine (HSK.out _ HS1.out.now.2).mono ?_
  rintro e w2 ⟨rfl, b2⟩
  obtain ⟨W2, hW2⟩ : ∃ W, W = w2.alloc (.cells #[.int .i64 MS, .int .i64 NS, .int .i64 0] 41) := ⟨_, rfl⟩
  have HS2 := Stay.allocE (Stay.go HS1 b2) hW2
  have HA2 := Stay.allocE (Stay.go HA1 b2) hW2
  have HB2 : Hid (Stay W2 (fun V => Blk V w2.heap.size #[.int .i64 MS, .int .i64 NS, .int .i64 0] 41)) := (Blk.newE hW2).stay
  clear b2 HS1 HA1 HSK k0 k1 k2
  obtain ⟨k0, k1, k2⟩ := HS2.out.now.1.2.three
  go_upto_region 3 with fail
  rw [← hW2]
  clear hW2
  go_wp2_with fail
  refine (HPA.out _).mono ?_
  rintro e w3 ⟨rfl, b3⟩
  obtain ⟨W3, hW3⟩ : ∃ W, W = w3.alloc (.cells #[.int .i64 P0, .int .i64 P1, .int .i64 P2] 41) := ⟨_, rfl⟩
  have HS3 := Stay.allocE (Stay.go HS2 b3) hW3
  have HA3 := Stay.allocE (Stay.go HA2 b3) hW3
  have HB3 := Stay.allocE (Stay.go HB2 b3) hW3
  have HC3 : Hid (Stay W3 (fun V => Blk V w3.heap.size #[.int .i64 P0, .int .i64 P1, .int .i64 P2] 41)) := (Blk.newE hW3).stay
  clear b3 HS2 HA2 HB2 HPA k0 k1 k2
  obtain ⟨k0, k1, k2⟩ := HS3.out.now.1.1.three
  obtain ⟨j0, j1, j2⟩ := HS3.out.now.1.2.three
  go_upto_region 4 with fail
  rw [← hW3]
  clear hW3
  go_wp2_with fail
  refine (HNX.out _ HS3.out.now.2).mono ?_
  rintro e w4 ⟨xa, xc, rfl, hxs, b4⟩
  obtain ⟨W4, hW4⟩ : ∃ W, W = (w4.alloc (.cells #[.int .i64 dM, .int .i64 dG, .int .i64 dF] 41)).alloc (.cells #[.int .i64 xt, .bool xk, .slice xa xn xc] 39) := ⟨_, rfl⟩
  have HS4 : Hid (Stay W4 (fun V => ((Blk V w.heap.size #[.int .i64 first, .slice ga ln gc, .slice oa lo oc] 36 ∧ Blk V (w.heap.size + 1) #[.int .i64 m, .int .i64 g, .int .i64 f] 41) ∧ Below w.heap.size w V) ∧ (Blk V w1.heap.size #[.int .i64 ML, .int .i64 NL, .int .i64 0] 41 ∧ Blk V w2.heap.size #[.int .i64 MS, .int .i64 NS, .int .i64 0] 41 ∧ Blk V w3.heap.size #[.int .i64 P0, .int .i64 P1, .int .i64 P2] 41) ∧ (Blk V w4.heap.size #[.int .i64 dM, .int .i64 dG, .int .i64 dF] 41 ∧ Blk V (w4.heap.size + 1) #[.int .i64 xt, .bool xk, .slice xa xn xc] 39) ∧ StrsIn (fun _ => True) V (.slice xa xn xc) X.parts)) := by
    have h := ((Stay.go HS3 b4).out.and ((Stay.go HA3 b4).out.and ((Stay.go HB3 b4).out.and (Stay.go HC3 b4).out)))
    have hx := (hxs.out.stay)
    obtain ⟨h1, h2, _⟩ := two_boxes (h.and hx) hW4
    exact fun V hV => ⟨(h1.out V hV).1.1, (h1.out V hV).1.2, h2.out V hV, (h1.out V hV).2⟩
  clear b4 HS3 HA3 HB3 HC3 HNX hxs k0 k1 k2 j0 j1 j2
  obtain ⟨k0, k1, k2⟩ := HS4.out.now.1.1.1.three
  obtain ⟨j0, j1, j2⟩ := HS4.out.now.1.1.2.three
  go_upto_region 5 with fail
  rw [← hW4]
  clear hW4
  have cS : ∀ d os, Calls Try.prog 22 #[.agg #[.int .i64 first, .slice ga ln gc, .slice oa lo oc]] (grow (redrawn W4 d) os) fun e w'' => e = .returned (.int .i64 U) ∧ ∃ p : Regrown, w'' = grow (redrawn W4 p.d) p.os := fun d os => Calls.regrown_of (HCKR.out _ (HS4.out _ (below_regrown W4 d os)).1.2)
  have cC : ∀ d os, Calls Try.prog 23 #[.agg #[.int .i64 m, .int .i64 g, .int .i64 f]] (grow (redrawn W4 d) os) fun e w'' => e = .returned (.int .i64 EP) ∧ ∃ p : Regrown, w'' = grow (redrawn W4 p.d) p.os := fun d os => Calls.regrown_of (HCCR.out _)
  have z0 := cell_regrown k0
  have z1 := cell_regrown k1
  have z2 := cell_regrown k2
  have z3 := cell_regrown j0
  have z4 := cell_regrown j1
  have z5 := cell_regrown j2
  clear k0 k1 k2 j0 j1 j2
  refine wp_region_quiet_below (by kernel_rfl) (by kernel_rfl) ?_
  iterate 2 (quiet_step (exact cS _ _))
  iterate 4 (quiet_step (exact cC _ _))
  refine wpQuiet_nil ?_
  intro _ hw'
  obtain ⟨⟨dq, osq⟩, hw''⟩ := hw'
  subst hw''
  have bR := below_regrown W4 dq osq
  obtain ⟨V, hV⟩ : ∃ V, V = grow (redrawn W4 dq) osq := ⟨_, rfl⟩
  rw [← hV] at bR
  rw [← hV]
  have HS5 := Stay.go HS4 bR
  clear hV cS cC z0 z1 z2 z3 z4 z5 bR HS4 HCKR HCCR
  obtain ⟨z, hz⟩ : ∃ z, z = V.heap.size := ⟨_, rfl⟩
  go_upto_region 10 with fail
  obtain ⟨W9, hW9⟩ : ∃ W, W = ((((V.alloc (.cells #[.int .i64 0, .int .i64 0, .int .i64 0] 41)).alloc (.cells #[.int .i64 0, .int .i64 0, .int .i64 0] 41)).alloc (.cells #[.int .i64 0, .int .i64 0, .int .i64 0] 41)).alloc (.cells #[.int .i64 0, .int .i64 0, .int .i64 0] 41)).alloc (.cells #[.int .i64 0, .bool false, .slice none 0 0] 39) := ⟨_, rfl⟩
  obtain ⟨hF, hVW⟩ := five_new V z hz hW9
  have HF9 : Hid (FiveB z W9 0 0 0 0 0 0 0 0 0 0 0 0 0 false (.slice none 0 0)) := hF
  have HS9 : Hid (StayK [z, z + 1, z + 1 + 1, z + 1 + 1 + 1, z + 1 + 1 + 1 + 1] W9 _) := fun Q hQ => HS5.out Q (hVW.trans (hQ.toBelow hVW.size (fun k hk => by simp at hk; omega)))
  rw [← hz, ← hW9]
  clear hF hVW hW9 hz HS5
  have HK9 : Hid (Kept [z, z + 1, z + 1 + 1, z + 1 + 1 + 1, z + 1 + 1 + 1 + 1] W9 W9) := Kept.refl _ _
  go_upto_if 69 with fail
  go_cut [22] (fun s22 wd => s22 = .int .i64 EL ∧ Hid (Kept [z, z + 1, z + 1 + 1, z + 1 + 1 + 1, z + 1 + 1 + 1 + 1] W9 wd) ∧ Hid (FiveB z wd ML NL 0 0 0 0 0 0 0 0 0 0 0 false (.slice none 0 0)))
  case first =>
    as_aux_lemma =>
      by_cases hU0 : U = 0
      · obtain ⟨hf0, hf1, hq6, hz0, hz1⟩ := HL.out.2 hU0
        have HAL : Hid (∀ V : World, Below w.heap.size w V → Calls Try.prog 16 #[.agg #[.int .i64 first, .slice ga ln gc, .slice oa lo oc]] V fun e w' => ∃ a c, e = .returned (.slice a q c) ∧ Below V.heap.size V w') := HALL.out hU0
        obtain ⟨k0, k1, k2⟩ := HS9.out.now.1.1.1.three
        have BW : Hid (Below w.heap.size w W9) := HS9.out.now.1.2
        by_cases hq0 : q = 0
        · have HE : Hid (EL = 5 ∧ ML = 0 ∧ NL = 0) := hz0 hq0
          clear hz0 hz1
          subst hU0 hq0
          go_wp2_with fail
          refine (HAL.out _ BW.out).mono ?_
          rintro e w5 ⟨a5, c5, rfl, b5⟩
          go_wp2_with fail
          go_meet
          case rel => exact ⟨by rw [HE.out.1], (Kept.refl _ _).below b5, by rw [HE.out.2.1, HE.out.2.2]; exact HF9.out.below b5⟩
        · obtain ⟨e1, e2, hnl⟩ := hz1 hq0
          have HE : Hid (EL = 0 ∧ ML = 1) := ⟨e1, e2⟩
          have hqb : ((q : Int) == 0) = false := by simp; omega
          clear hz0 hz1 e1 e2
          subst hU0
          go_wp2_with fail
          refine (HAL.out _ BW.out).mono ?_
          rintro e w5 ⟨a5, c5, rfl, b5⟩
          have F5 : Hid (FiveB z w5 0 0 0 0 0 0 0 0 0 0 0 0 0 false (.slice none 0 0)) := HF9.out.below b5
          have K5 : Hid (Kept [z, z + 1, z + 1 + 1, z + 1 + 1 + 1, z + 1 + 1 + 1 + 1] W9 w5) := (Kept.refl _ _).below b5
          clear k0 k1 k2 b5
          obtain ⟨k0, k1, k2⟩ := (HS9.out w5 K5.out).1.1.1.three
          obtain ⟨p0, p1, p2⟩ := F5.out.1.three
          have fp := F5.out.1.free
          have lp := F5.out.1.lt
          obtain ⟨W7, hW7⟩ : ∃ W, W = ((w5.setCell ⟨z, 0, none⟩ (.int .i64 1)).setCell ⟨z, 1, none⟩ (.int .i64 NL)).setCell ⟨z, 2, none⟩ (.int .i64 0) := ⟨_, rfl⟩
          have F7 : Hid (FiveB z W7 1 NL 0 0 0 0 0 0 0 0 0 0 0 false (.slice none 0 0)) := by rw [hW7]; exact F5.out.setA 1 NL 0
          have K7 : Hid (Kept [z, z + 1, z + 1 + 1, z + 1 + 1 + 1, z + 1 + 1 + 1 + 1] W9 W7) := by rw [hW7]; exact K5.out.put3 (by simp) _ _ _
          clear F5 K5
          go_wp2_with fail
          rw [← hW7]
          go_meet
          case rel => exact ⟨by rw [HE.out.1], K7.out, by rw [HE.out.2]; exact F7.out⟩
      · have HE : Hid (EL = U ∧ ML = 0 ∧ NL = 0) := HL.out.1 hU0
        go_wp2_with fail
        go_meet
        case rel => exact ⟨by rw [HE.out.1], HK9.out, by rw [HE.out.2.1, HE.out.2.2]; exact HF9.out⟩
  case rest =>
    obtain ⟨rfl, HK1, HF1⟩ := hcut
    obtain ⟨v1, hv1⟩ : ∃ x, x = wc := ⟨_, rfl⟩
    subst hv1
    clear HF9 HK9 HL HALL
    go_upto_region 15 with fail
    go_cut [90] (fun s90 wd => s90 = .bool C ∧ wd = v1)
    case first =>
      as_aux_lemma =>
        by_cases hU0 : U = 0
        · subst hU0
          by_cases h1 : t < 0
          · have hc : C = true := by rw [HCC.out]; exact decide_eq_true ⟨rfl, .inl h1⟩
            go_wp2_with fail
            go_meet
            case rel => exact ⟨by rw [hc], rfl⟩
          · by_cases h2 : 1000000 < t
            · have hc : C = true := by rw [HCC.out]; exact decide_eq_true ⟨rfl, .inr h2⟩
              go_wp2_with fail
              go_meet
              case rel => exact ⟨by rw [hc], rfl⟩
            · have hc : C = false := by rw [HCC.out]; exact decide_eq_false (by omega)
              go_wp2_with fail
              go_meet
              case rel => exact ⟨by rw [hc], rfl⟩
        · have hc : C = false := by rw [HCC.out]; exact decide_eq_false (by omega)
          go_wp2_with fail
          go_meet
          case rel => exact ⟨by rw [hc], rfl⟩
    case rest =>
      obtain ⟨rfl, rfl⟩ := hcut
      obtain ⟨v1, hv1⟩ : ∃ x, x = wc := ⟨_, rfl⟩
      subst hv1
      clear HCC
      go_upto_if 90 with fail
      go_cut [23] (fun s23 wd => s23 = .int .i64 XS ∧ wd = v1)
      case first =>
        as_aux_lemma =>
          cases C
          · have HX : Hid (XS = U) := by rw [HXS.out]; rfl
            go_wp2_with fail
            go_meet
            case rel => exact ⟨by rw [HX.out], rfl⟩
          · have HX : Hid (XS = 3) := by rw [HXS.out]; rfl
            go_wp2_with fail
            go_meet
            case rel => exact ⟨by rw [HX.out], rfl⟩
      case rest =>
        obtain ⟨rfl, rfl⟩ := hcut
        obtain ⟨v1, hv1⟩ : ∃ x, x = wc := ⟨_, rfl⟩
        subst hv1
        clear HXS
        go_upto_if 92 with fail
        go_cut [23] (fun s23 wd => s23 = .int .i64 ES ∧ Hid (Kept [z, z + 1, z + 1 + 1, z + 1 + 1 + 1, z + 1 + 1 + 1 + 1] W9 wd) ∧ Hid (FiveB z wd ML NL 0 MS NS 0 0 0 0 0 0 0 0 false (.slice none 0 0)))
        case first =>
          as_aux_lemma =>
            by_cases hX0 : XS = 0
            · obtain ⟨hU0, hC0, hz0, hz1⟩ := HSS.out.2 hX0
              have HR0 := HRS.out hU0 hC0
              obtain ⟨k0, k1, k2⟩ := (HS9.out v1 HK1.out).1.1.1.three
              have BW : Hid (Below w.heap.size w v1) := (HS9.out v1 HK1.out).1.2
              by_cases hq0 : q = 0
              · have HE : Hid (ES = 5 ∧ MS = 0 ∧ NS = 0) := hz0 hq0
                have HR : Hid (∀ V : World, Below w.heap.size w V → Calls Try.prog 24 #[.agg #[.int .i64 first, .slice ga ln gc, .slice oa lo oc], .int .i64 t] V fun e w' => e = .returned (.tuple #[.int .i64 NS, .bool false]) ∧ Below V.heap.size V w') := fun V hV => by
                  have := HR0 V hV
                  rw [show decide (0 < q) = false from decide_eq_false (by omega)] at this
                  exact this
                clear hz0 hz1 HR0
                subst hX0
                clear hU0 hC0 hq0
                go_wp2_with fail
                refine (HR.out _ BW.out).mono ?_
                rintro e w5 ⟨rfl, b5⟩
                have F5 : Hid (FiveB z w5 ML NL 0 0 0 0 0 0 0 0 0 0 0 false (.slice none 0 0)) := HF1.out.below b5
                have K5 : Hid (Kept [z, z + 1, z + 1 + 1, z + 1 + 1 + 1, z + 1 + 1 + 1 + 1] W9 w5) := HK1.out.below b5
                clear k0 k1 k2 b5
                obtain ⟨p0, p1, p2⟩ := F5.out.2.1.three
                have fp := F5.out.2.1.free
                have lp := F5.out.2.1.lt
                obtain ⟨W6, hW6⟩ : ∃ W, W = ((w5.setCell ⟨z + 1, 0, none⟩ (.int .i64 3)).setCell ⟨z + 1, 1, none⟩ (.int .i64 NS)).setCell ⟨z + 1, 2, none⟩ (.int .i64 0) := ⟨_, rfl⟩
                have F6 : Hid (FiveB z W6 ML NL 0 3 NS 0 0 0 0 0 0 0 0 false (.slice none 0 0)) := by rw [hW6]; exact F5.out.setB 3 NS 0
                have K6 : Hid (Kept [z, z + 1, z + 1 + 1, z + 1 + 1 + 1, z + 1 + 1 + 1 + 1] W9 W6) := by rw [hW6]; exact K5.out.put3 (by simp) _ _ _
                clear F5 K5
                go_upto_region 20 with fail
                rw [← hW6]
                clear hW6 p0 p1 p2 fp lp
                obtain ⟨p0, p1, p2⟩ := F6.out.2.1.three
                have fp := F6.out.2.1.free
                have lp := F6.out.2.1.lt
                obtain ⟨W7, hW7⟩ : ∃ W, W = ((W6.setCell ⟨z + 1, 0, none⟩ (.int .i64 0)).setCell ⟨z + 1, 1, none⟩ (.int .i64 0)).setCell ⟨z + 1, 2, none⟩ (.int .i64 0) := ⟨_, rfl⟩
                have F7 : Hid (FiveB z W7 ML NL 0 0 0 0 0 0 0 0 0 0 0 false (.slice none 0 0)) := by rw [hW7]; exact F6.out.setB 0 0 0
                have K7 : Hid (Kept [z, z + 1, z + 1 + 1, z + 1 + 1 + 1, z + 1 + 1 + 1 + 1] W9 W7) := by rw [hW7]; exact K6.out.put3 (by simp) _ _ _
                clear F6 K6
                go_wp2_with fail
                rw [← hW7]
                go_meet
                case rel => exact ⟨by rw [HE.out.1], K7.out, by rw [HE.out.2.1, HE.out.2.2]; exact F7.out⟩
              · have HE : Hid (ES = 0 ∧ MS = 3) := hz1 hq0
                have HR : Hid (∀ V : World, Below w.heap.size w V → Calls Try.prog 24 #[.agg #[.int .i64 first, .slice ga ln gc, .slice oa lo oc], .int .i64 t] V fun e w' => e = .returned (.tuple #[.int .i64 NS, .bool true]) ∧ Below V.heap.size V w') := fun V hV => by
                  have := HR0 V hV
                  rw [show decide (0 < q) = true from decide_eq_true (by omega)] at this
                  exact this
                clear hz0 hz1 HR0
                subst hX0
                clear hU0 hC0 hq0
                go_wp2_with fail
                refine (HR.out _ BW.out).mono ?_
                rintro e w5 ⟨rfl, b5⟩
                have F5 : Hid (FiveB z w5 ML NL 0 0 0 0 0 0 0 0 0 0 0 false (.slice none 0 0)) := HF1.out.below b5
                have K5 : Hid (Kept [z, z + 1, z + 1 + 1, z + 1 + 1 + 1, z + 1 + 1 + 1 + 1] W9 w5) := HK1.out.below b5
                clear k0 k1 k2 b5
                obtain ⟨p0, p1, p2⟩ := F5.out.2.1.three
                have fp := F5.out.2.1.free
                have lp := F5.out.2.1.lt
                obtain ⟨W6, hW6⟩ : ∃ W, W = ((w5.setCell ⟨z + 1, 0, none⟩ (.int .i64 3)).setCell ⟨z + 1, 1, none⟩ (.int .i64 NS)).setCell ⟨z + 1, 2, none⟩ (.int .i64 0) := ⟨_, rfl⟩
                have F6 : Hid (FiveB z W6 ML NL 0 3 NS 0 0 0 0 0 0 0 0 false (.slice none 0 0)) := by rw [hW6]; exact F5.out.setB 3 NS 0
                have K6 : Hid (Kept [z, z + 1, z + 1 + 1, z + 1 + 1 + 1, z + 1 + 1 + 1 + 1] W9 W6) := by rw [hW6]; exact K5.out.put3 (by simp) _ _ _
                clear F5 K5
                go_wp2_with fail
                rw [← hW6]
                go_meet
                case rel => exact ⟨by rw [HE.out.1], K6.out, by rw [HE.out.2]; exact F6.out⟩
            · have HE : Hid (ES = XS ∧ MS = 0 ∧ NS = 0) := HSS.out.1 hX0
              go_wp2_with fail
              go_meet
              case rel => exact ⟨by rw [HE.out.1], HK1.out, by rw [HE.out.2.1, HE.out.2.2]; exact HF1.out⟩
        case rest =>
          obtain ⟨rfl, HK2, HF2⟩ := hcut
          obtain ⟨v2, hv2⟩ : ∃ x, x = wc := ⟨_, rfl⟩
          subst hv2
          clear HF1 HK1 HSS HRS
          go_upto_if 105 with fail
          go_cut [] (fun wd => Hid (Kept [z, z + 1, z + 1 + 1, z + 1 + 1 + 1, z + 1 + 1 + 1 + 1] W9 wd) ∧ Hid (FiveB z wd ML NL 0 MS NS 0 P0 P1 P2 0 0 0 0 false (.slice none 0 0)))
          case first =>
            as_aux_lemma =>
              by_cases hP0 : EP = 0
              · have HE : Hid (P0 = 2 ∧ P1 = g ∧ P2 = f) := HPP.out.2 hP0
                obtain ⟨j0, j1, j2⟩ := (HS9.out v2 HK2.out).1.1.2.three
                obtain ⟨p0, p1, p2⟩ := HF2.out.2.2.1.three
                have fp := HF2.out.2.2.1.free
                have lp := HF2.out.2.2.1.lt
                obtain ⟨W6, hW6⟩ : ∃ W, W = ((v2.setCell ⟨z + 1 + 1, 0, none⟩ (.int .i64 2)).setCell ⟨z + 1 + 1, 1, none⟩ (.int .i64 g)).setCell ⟨z + 1 + 1, 2, none⟩ (.int .i64 f) := ⟨_, rfl⟩
                have F6 : Hid (FiveB z W6 ML NL 0 MS NS 0 2 g f 0 0 0 0 false (.slice none 0 0)) := by rw [hW6]; exact HF2.out.setC 2 g f
                have K6 : Hid (Kept [z, z + 1, z + 1 + 1, z + 1 + 1 + 1, z + 1 + 1 + 1 + 1] W9 W6) := by rw [hW6]; exact HK2.out.put3 (by simp) _ _ _
                subst hP0
                go_wp2_with fail
                rw [← hW6]
                go_meet
                case rel => exact ⟨K6.out, by rw [HE.out.1, HE.out.2.1, HE.out.2.2]; exact F6.out⟩
              · have HE : Hid (P0 = 0 ∧ P1 = 0 ∧ P2 = 0) := HPP.out.1 hP0
                go_wp2_with fail
                go_meet
                case rel => exact ⟨HK2.out, by rw [HE.out.1, HE.out.2.1, HE.out.2.2]; exact HF2.out⟩
          case rest =>
            obtain ⟨HK3, HF3⟩ := hcut
            obtain ⟨v3, hv3⟩ : ∃ x, x = wc := ⟨_, rfl⟩
            subst hv3
            clear HF2 HK2 HPP
            go_upto_if 112 with fail
            go_cut [24] (fun s24 wd => s24 = .int .i64 Y ∧ wd = v3)
            case first =>
              as_aux_lemma =>
                by_cases hU0 : U = 0
                · have HE : Hid (Y = EP) := by rw [HYY.out, if_pos hU0]; rfl
                  subst hU0
                  go_wp2_with fail
                  go_meet
                  case rel => exact ⟨by rw [HE.out], rfl⟩
                · have HE : Hid (Y = U) := by rw [HYY.out, if_neg hU0]; rfl
                  go_wp2_with fail
                  go_meet
                  case rel => exact ⟨by rw [HE.out], rfl⟩
            case rest =>
              obtain ⟨rfl, rfl⟩ := hcut
              obtain ⟨v3, hv3⟩ : ∃ x, x = wc := ⟨_, rfl⟩
              subst hv3
              clear HYY
              go_upto_region 26 with fail
              go_cut [123] (fun s123 wd => s123 = .bool D ∧ wd = v3)
              case first =>
                as_aux_lemma =>
                  by_cases hY0 : Y = 0
                  · subst hY0
                    by_cases h1 : upto < 0
                    · have hc : D = true := by rw [HDD.out]; exact decide_eq_true ⟨rfl, .inl h1⟩
                      go_wp2_with fail
                      go_meet
                      case rel => exact ⟨by rw [hc], rfl⟩
                    · by_cases h2 : 1000000 < upto
                      · have hc : D = true := by rw [HDD.out]; exact decide_eq_true ⟨rfl, .inr h2⟩
                        go_wp2_with fail
                        go_meet
                        case rel => exact ⟨by rw [hc], rfl⟩
                      · have hc : D = false := by rw [HDD.out]; exact decide_eq_false (by omega)
                        go_wp2_with fail
                        go_meet
                        case rel => exact ⟨by rw [hc], rfl⟩
                  · have hc : D = false := by rw [HDD.out]; exact decide_eq_false (by omega)
                    go_wp2_with fail
                    go_meet
                    case rel => exact ⟨by rw [hc], rfl⟩
              case rest =>
                obtain ⟨rfl, rfl⟩ := hcut
                obtain ⟨v3, hv3⟩ : ∃ x, x = wc := ⟨_, rfl⟩
                subst hv3
                clear HDD
                go_upto_if 123 with fail
                go_cut [24] (fun s24 wd => s24 = .int .i64 E ∧ wd = v3)
                case first =>
                  as_aux_lemma =>
                    cases D
                    · have HX : Hid (E = Y) := by rw [HEE.out]; rfl
                      go_wp2_with fail
                      go_meet
                      case rel => exact ⟨by rw [HX.out], rfl⟩
                    · have HX : Hid (E = 3) := by rw [HEE.out]; rfl
                      go_wp2_with fail
                      go_meet
                      case rel => exact ⟨by rw [HX.out], rfl⟩
                case rest =>
                  obtain ⟨rfl, rfl⟩ := hcut
                  obtain ⟨v3, hv3⟩ : ∃ x, x = wc := ⟨_, rfl⟩
                  subst hv3
                  clear HEE
                  go_upto_if 125 with fail
                  go_cut [30, 31] (fun s30 s31 wd => s30 = .bool K ∧ s31 = .bool T ∧ ∃ ya yc, Hid (Kept [z, z + 1, z + 1 + 1, z + 1 + 1 + 1, z + 1 + 1 + 1 + 1] W9 wd) ∧ Hid (FiveB z wd ML NL 0 MS NS 0 P0 P1 P2 dM dG dF xt xk (.slice ya xn yc)) ∧ Hid (StrsIn (fun _ => True) wd (.slice ya xn yc) X.parts))
                  case first =>
                    as_aux_lemma =>
                      by_cases hE0 : E = 0
                      · have HR0 := HRN.out hE0
                        have HR : Hid (∀ V : World, Below w.heap.size w V → _) := HR0
                        obtain ⟨k0, k1, k2⟩ := (HS9.out v3 HK3.out).1.1.1.three
                        obtain ⟨j0, j1, j2⟩ := (HS9.out v3 HK3.out).1.1.2.three
                        have BW : Hid (Below w.heap.size w v3) := (HS9.out v3 HK3.out).1.2
                        clear HR0
                        subst hE0
                        go_wp2_with fail
                        refine (HR.out _ BW.out).mono ?_
                        rintro e w5 ⟨ya, yc, rfl, hys, b5⟩
                        have F5 : Hid (FiveB z w5 ML NL 0 MS NS 0 P0 P1 P2 0 0 0 0 false (.slice none 0 0)) := HF3.out.below b5
                        have K5 : Hid (Kept [z, z + 1, z + 1 + 1, z + 1 + 1 + 1, z + 1 + 1 + 1 + 1] W9 w5) := HK3.out.below b5
                        clear k0 k1 k2 j0 j1 j2 b5
                        have Y5 : Hid (StrsIn (fun b => (True ∧ b ≠ z + 1 + 1 + 1) ∧ b ≠ z + 1 + 1 + 1 + 1) w5 (.slice ya xn yc) X.parts) := (hys.out.off F5.out.2.2.2.1 (fun j s h => by rcases j with _ | _ | _ | j <;> simp at h)).off F5.out.2.2.2.2 (fun j s h => by rcases j with _ | _ | _ | j <;> simp at h)
                        obtain ⟨p0, p1, p2⟩ := F5.out.2.2.2.1.three
                        have fp := F5.out.2.2.2.1.free
                        have lp := F5.out.2.2.2.1.lt
                        obtain ⟨q0, q1, q2⟩ := F5.out.2.2.2.2.three
                        have fq := F5.out.2.2.2.2.free
                        have lq := F5.out.2.2.2.2.lt
                        obtain ⟨W6, hW6⟩ : ∃ W, W = ((w5.setCell ⟨z + 1 + 1 + 1, 0, none⟩ (.int .i64 dM)).setCell ⟨z + 1 + 1 + 1, 1, none⟩ (.int .i64 dG)).setCell ⟨z + 1 + 1 + 1, 2, none⟩ (.int .i64 dF) := ⟨_, rfl⟩
                        obtain ⟨W7, hW7⟩ : ∃ W, W = ((W6.setCell ⟨z + 1 + 1 + 1 + 1, 0, none⟩ (.int .i64 xt)).setCell ⟨z + 1 + 1 + 1 + 1, 1, none⟩ (.bool xk)).setCell ⟨z + 1 + 1 + 1 + 1, 2, none⟩ (.slice ya xn yc) := ⟨_, rfl⟩
                        have F7 : Hid (FiveB z W7 ML NL 0 MS NS 0 P0 P1 P2 dM dG dF xt xk (.slice ya xn yc)) := by rw [hW7, hW6]; exact (F5.out.setD dM dG dF).setE xt xk _
                        have K7 : Hid (Kept [z, z + 1, z + 1 + 1, z + 1 + 1 + 1, z + 1 + 1 + 1 + 1] W9 W7) := by rw [hW7, hW6]; exact (K5.out.put3 (by simp) _ _ _).put3 (by simp) _ _ _
                        have Y7 : Hid (StrsIn (fun _ => True) W7 (.slice ya xn yc) X.parts) := by
                          have hno : ∀ c, ((True ∧ c ≠ z + 1 + 1 + 1) ∧ c ≠ z + 1 + 1 + 1 + 1) → W7.heap[c]? = w5.heap[c]? := fun c hc => by
                            rw [hW7, hW6, Below.heap_setCell _ _ _ _ (by show c ≠ z + 1 + 1 + 1 + 1; omega), Below.heap_setCell _ _ _ _ (by show c ≠ z + 1 + 1 + 1 + 1; omega), Below.heap_setCell _ _ _ _ (by show c ≠ z + 1 + 1 + 1 + 1; omega), Below.heap_setCell _ _ _ _ (by show c ≠ z + 1 + 1 + 1; omega), Below.heap_setCell _ _ _ _ (by show c ≠ z + 1 + 1 + 1; omega), Below.heap_setCell _ _ _ _ (by show c ≠ z + 1 + 1 + 1; omega)]
                          exact Y5.out.to ⟨by rw [hW7, hW6]; simp, fun c _ hS => hno c hS⟩ (fun _ _ _ => trivial)
                        clear F5 K5 Y5 hys
                        go_wp2_with fail
                        rw [← hW6, ← hW7]
                        go_meet
                        case rel => exact ⟨rfl, rfl, ya, yc, K7.out, F7.out, Y7.out⟩
                      · have HE := HNB.out hE0
                        have HE' : Hid _ := HE
                        clear HE
                        go_wp2_with fail
                        go_meet
                        case rel =>
                          obtain ⟨e1, e2, e3, e4, e5, e6, e7, e8, e9⟩ := HE'.out
                          refine ⟨by rw [e8], by rw [e9], none, 0, HK3.out, ?_, ?_⟩
                          · rw [e1, e2, e3, e4, e5, e6]; exact HF3.out
                          · rw [e6, e7]; exact StrsIn.nil _ _
                  case rest =>
                    obtain ⟨rfl, rfl, ya, yc, HK4, HF4, HYS⟩ := hcut
                    obtain ⟨v4, hv4⟩ : ∃ x, x = wc := ⟨_, rfl⟩
                    subst hv4
                    clear HF3 HK3 HNB HRN
                    have HS10 := StayK.goK HS9 HK4.out
                    have HY10 : Hid (Stay v4 (fun V => FiveB z V ML NL 0 MS NS 0 P0 P1 P2 dM dG dF xt xk (.slice ya xn yc) ∧ StrsIn (fun _ => True) V (.slice ya xn yc) X.parts)) := fun V hV => ⟨HF4.out.below hV, HYS.out.below hV⟩
                    clear HS9 HF4 HK4 HYS
                    go_wp2_with fail
                    refine (cursorBegun_any _).mono ?_
                    rintro e w6 ⟨rfl, b6⟩
                    have HS11 := StayK.go HS10 b6
                    have HY11 := Stay.go HY10 b6
                    clear HS10 HY10 b6
                    obtain ⟨j0, j1, j2⟩ := HS11.out.now.1.1.2.three
                    go_wp2_with fail
                    refine (HCK.out _).mono ?_
                    rintro e w7 ⟨rfl, b7⟩
                    have HS12 := StayK.go HS11 b7
                    have HY12 := Stay.go HY11 b7
                    clear HS11 HY11 b7 j0 j1 j2 HCK
                    have FA := HS12.out.now.2.1
                    obtain ⟨a0, a1, a2⟩ := FA.1.three
                    obtain ⟨b0, b1, b2⟩ := FA.2.1.three
                    obtain ⟨c0, c1, c2⟩ := FA.2.2.three
                    have FB := HS12.out.now.2.2.1
                    obtain ⟨d0, d1, d2⟩ := FB.1.three
                    obtain ⟨e0, e1, e2⟩ := FB.2.three
                    have FC := HY12.out.now.1
                    obtain ⟨f0, f1, f2⟩ := FC.1.three
                    obtain ⟨g0, g1, g2⟩ := FC.2.1.three
                    obtain ⟨h0, h1, h2⟩ := FC.2.2.1.three
                    obtain ⟨i0, i1, i2⟩ := FC.2.2.2.1.three
                    obtain ⟨y0, y1, y2⟩ := FC.2.2.2.2.three
                    have HX1 : Hid (StrsIn (fun _ => True) w7 (.slice xa xn xc) X.parts) := HS12.out.now.2.2.2
                    have HX2 : Hid (StrsIn (fun _ => True) w7 (.slice ya xn yc) X.parts) := HY12.out.now.2
                    have BW : Hid (Below w.heap.size w w7) := HS12.out.now.1.2
                    have hq1 := fun W => eql_cur ML NL 0 ML NL 0 W
                    have hq2 := fun W => eql_cur MS NS 0 MS NS 0 W
                    have hq3 := fun W => eql_cur P0 P1 P2 P0 P1 P2 W
                    have hq4 := fun W => eql_cur dM dG dF dM dG dF W
                    clear FA FB FC HS12 HY12
                    go_wp2_with fail
                    refine (sameFrame_any xt xt xk xk _ _ X.parts X.parts w7 HX1.out.1 HX2.out.1 HX1.out.2.1).mono ?_
                    rw [sameFB_refl]
                    rintro e w8 ⟨rfl, b8⟩
                    have BW8 : Hid (Below w.heap.size w w8) := BW.out.trans (b8.mono BW.out.size)
                    clear HX1 HX2 BW b8
                    go_wp2
                    go_ret
                    exact ⟨rfl, BW8.out⟩

end Go.Proofs.Ytnpaejknoipicae
