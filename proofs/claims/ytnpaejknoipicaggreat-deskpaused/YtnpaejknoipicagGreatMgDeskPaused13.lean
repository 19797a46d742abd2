/-
 A region that draws its order, with guards, one call that matters, reads and quiet calls beside it, and boxes: RegMain's law, with guards.
-/
import Derived.Test.YtnpaejknoipicagGreatMgDeskPaused11
import Derived.Test.YtnpaejknoipicagGreatMgDeskPaused8
import Derived.Test.YtnpaejknoipicagGreatMgDeskPaused9
import Derived.Test.YtnpaejknoipicagGreatMgDeskPaused12
import Derived.Deep.DeepCutAuto
import Derived.Test.YtnpaejknoipicagGreatMgDeskPaused5
namespace Go.Proofs.YtnpaejknoipicagGreat
open Go.RowKit
set_option maxHeartbeats 4000000 in
set_option maxRecDepth 100000 in
theorem doLive_any (B M : Nat) (x0 x1 x2 x3 x4 x5 x6 x7 x8 x9 : Value) (first : Int) (gv ov x13 : Value) (L : List (List Fr)) (O : List Fr) (w : World) (hB : Blk w B #[.pointer (some ⟨M, 0, none⟩)] 119) (hM : Blk w M #[x0, x1, x2, x3, x4, x5, x6, x7, x8, x9, .int .i64 first, gv, ov, x13] 77) (hg : GrsIn (fun _ => True) w gv L) (ho : FrsIn (fun _ => True) w ov O) :
  Calls Tryz.prog 73 #[.pointer (some ⟨B, 0, none⟩)] w fun e w' => e = .returned (.tuple #[.agg #[.int .i64 (begM first L O 1 1000000), .int .i64 (seekN first L O 1000000), .int .i64 0], .int .i64 (seekE first L O 1000000)]) ∧ Below w.heap.size w w' := by
 obtain ⟨ga, gc, eg, _, _⟩ := hg.len
 obtain ⟨oa, oc, eo, _, _⟩ := ho.len
 obtain ⟨ln, hln⟩ : ∃ n, n = L.length := ⟨_, rfl⟩
 obtain ⟨lo, hlo⟩ : ∃ n, n = O.length := ⟨_, rfl⟩
 rw [← hln] at eg
 rw [← hlo] at eo
 obtain ⟨m1, hm1⟩ : ∃ x, x = begM first L O 1 1000000 := ⟨_, rfl⟩
 obtain ⟨g1, hg1⟩ : ∃ x, x = seekN first L O 1000000 := ⟨_, rfl⟩
 obtain ⟨E, hE⟩ : ∃ x, x = seekE first L O 1000000 := ⟨_, rfl⟩
 have HL : Hid (∀ U, Below w.heap.size w U → Calls Tryz.prog 74 #[.agg #[.int .i64 first, gv, ov]] U fun e w' => e = .returned (.tuple #[.agg #[.int .i64 m1, .int .i64 g1, .int .i64 0], .int .i64 E]) ∧ Below U.heap.size U w') := fun U hU => by
  rw [hm1, hg1, hE]; exact live_any first gv ov L O U (hg.below hU) (ho.below hU)
 rw [← hm1, ← hg1, ← hE]
 have b0 := hB.cell (j := 0) (u := .pointer (some ⟨M, 0, none⟩)) rfl
 have y10 := hM.cell (j := 10) (u := .int .i64 first) rfl
 have y11 := hM.cell (j := 11) (u := gv) rfl
 have y12 := hM.cell (j := 12) (u := ov) rfl
 have lB := hB.lt
 have lM := hM.lt
 clear hB hM hg ho hln hlo hm1 hg1 hE
 subst eg eo
 go_enter Tryz.func73, Tryz.ntmps73
 go_wp2_with fail
 obtain ⟨V, hV⟩ : ∃ V, V = w.alloc (.cells #[.int .i64 0, .int .i64 0, .int .i64 0] 36) := ⟨_, rfl⟩
 have HB : Hid (Below w.heap.size w V) := by rw [hV]; exact (Below.refl _ _).alloc (Nat.le_refl _) _
 have HX : Hid (Blk V w.heap.size #[.int .i64 0, .int .i64 0, .int .i64 0] 36) := Blk.newE hV
 rw [← hV]
 clear hV
 refine (HL.out V HB.out).mono ?_
 rintro e w1 ⟨rfl, b1⟩
 have HX1 := HX.out.below b1 HX.out.lt
 obtain ⟨z0, z1, z2⟩ := HX1.three
 have fX := HX1.free
 have lX := HX1.lt
 obtain ⟨W, hW⟩ : ∃ W, W = ((w1.setCell ⟨w.heap.size, 0, none⟩ (.int .i64 m1)).setCell ⟨w.heap.size, 1, none⟩ (.int .i64 g1)).setCell ⟨w.heap.size, 2, none⟩ (.int .i64 0) := ⟨_, rfl⟩
 have HXW : Hid (Blk W w.heap.size #[.int .i64 m1, .int .i64 g1, .int .i64 0] 36) := by rw [hW]; exact HX1.put3 _ _ _
 have HBW : Hid (Below w.heap.size w W) := by
  rw [hW]
  exact (((HB.out.trans (b1.mono HB.out.size)).setCell (Nat.le_refl _) _).setCell (Nat.le_refl _) _).setCell (Nat.le_refl _) _
 clear HX HX1 b1 HB HL b0 y10 y11 y12
 go_wp2
 rw [← hW]
 clear hW z0 z1 z2 fX lX
 obtain ⟨z0, z1, z2⟩ := HXW.out.three
 exact bodyPost_ret (v := .tuple #[.agg #[.int .i64 m1, .int .i64 g1, .int .i64 0], .int .i64 E]) (by simp [results, Tryz.results73, go_sem, z0, z1, z2]) rfl ⟨rfl, HBW.out⟩
set_option maxHeartbeats 4000000 in
set_option maxRecDepth 100000 in
theorem doPause_any (B M : Nat) (m g f : Int) (x3 x4 x5 x6 x7 x8 x9 x10 x11 x12 x13 : Value) (w : World) (hB : Blk w B #[.pointer (some ⟨M, 0, none⟩)] 119) (hM : Blk w M #[.int .i64 m, .int .i64 g, .int .i64 f, x3, x4, x5, x6, x7, x8, x9, x10, x11, x12, x13] 77) :
  Calls Tryz.prog 78 #[.pointer (some ⟨B, 0, none⟩)] w fun e w' => e = .returned (.tuple #[.agg #[.int .i64 (pauN m g f 2), .int .i64 (pauN m g f g), .int .i64 (pauN m g f f)], .int .i64 (curE m g f)]) ∧ Below w.heap.size w w' := by
 obtain ⟨m1, hm1⟩ : ∃ x, x = pauN m g f 2 := ⟨_, rfl⟩
 obtain ⟨g1, hg1⟩ : ∃ x, x = pauN m g f g := ⟨_, rfl⟩
 obtain ⟨f1, hf1⟩ : ∃ x, x = pauN m g f f := ⟨_, rfl⟩
 obtain ⟨E, hE⟩ : ∃ x, x = curE m g f := ⟨_, rfl⟩
 have HL : Hid (∀ U : World, Calls Tryz.prog 79 #[.agg #[.int .i64 m, .int .i64 g, .int .i64 f]] U fun e w' => e = .returned (.tuple #[.agg #[.int .i64 m1, .int .i64 g1, .int .i64 f1], .int .i64 E]) ∧ Below U.heap.size U w') := fun U => by
  rw [hm1, hg1, hf1, hE]; exact pause_any m g f U
 rw [← hm1, ← hg1, ← hf1, ← hE]
 have b0 := hB.cell (j := 0) (u := .pointer (some ⟨M, 0, none⟩)) rfl
 have y0 := hM.cell (j := 0) (u := .int .i64 m) rfl
 have y1 := hM.cell (j := 1) (u := .int .i64 g) rfl
 have y2 := hM.cell (j := 2) (u := .int .i64 f) rfl
 have lB := hB.lt
 have lM := hM.lt
 clear hB hM hm1 hg1 hf1 hE
 go_enter Tryz.func78, Tryz.ntmps78
 go_wp2_with fail
 obtain ⟨V, hV⟩ : ∃ V, V = w.alloc (.cells #[.int .i64 0, .int .i64 0, .int .i64 0] 36) := ⟨_, rfl⟩
 have HB : Hid (Below w.heap.size w V) := by rw [hV]; exact (Below.refl _ _).alloc (Nat.le_refl _) _
 have HX : Hid (Blk V w.heap.size #[.int .i64 0, .int .i64 0, .int .i64 0] 36) := Blk.newE hV
 rw [← hV]
 clear hV
 refine (HL.out V).mono ?_
 rintro e w1 ⟨rfl, b1⟩
 have HX1 := HX.out.below b1 HX.out.lt
 obtain ⟨z0, z1, z2⟩ := HX1.three
 have fX := HX1.free
 have lX := HX1.lt
 obtain ⟨W, hW⟩ : ∃ W, W = ((w1.setCell ⟨w.heap.size, 0, none⟩ (.int .i64 m1)).setCell ⟨w.heap.size, 1, none⟩ (.int .i64 g1)).setCell ⟨w.heap.size, 2, none⟩ (.int .i64 f1) := ⟨_, rfl⟩
 have HXW : Hid (Blk W w.heap.size #[.int .i64 m1, .int .i64 g1, .int .i64 f1] 36) := by rw [hW]; exact HX1.put3 _ _ _
 have HBW : Hid (Below w.heap.size w W) := by
  rw [hW]
  exact (((HB.out.trans (b1.mono HB.out.size)).setCell (Nat.le_refl _) _).setCell (Nat.le_refl _) _).setCell (Nat.le_refl _) _
 clear HX HX1 b1 HB HL b0 y0 y1 y2
 go_wp2
 rw [← hW]
 clear hW z0 z1 z2 fX lX
 obtain ⟨z0, z1, z2⟩ := HXW.out.three
 exact bodyPost_ret (v := .tuple #[.agg #[.int .i64 m1, .int .i64 g1, .int .i64 f1], .int .i64 E]) (by simp [results, Tryz.results78, go_sem, z0, z1, z2]) rfl ⟨rfl, HBW.out⟩
set_option maxHeartbeats 4000000 in
set_option maxRecDepth 100000 in
theorem dkSet1_any (B M : Nat) (m g f : Int) (x3 x4 x5 x6 x7 x8 x9 x10 x11 x12 x13 : Value) (m1 g1 f1 E : Int) (w : World) (hM : Blk w M #[.int .i64 m, .int .i64 g, .int .i64 f, x3, x4, x5, x6, x7, x8, x9, x10, x11, x12, x13] 77) (hc : Calls Tryz.prog 73 #[.pointer (some ⟨B, 0, none⟩)] w fun e w' => e = .returned (.tuple #[.agg #[.int .i64 m1, .int .i64 g1, .int .i64 f1], .int .i64 E]) ∧ Below w.heap.size w w') :
  Calls Tryz.prog 72 #[.pointer (some ⟨M, 0, none⟩), .func (.func 73) #[] #[.pointer (some ⟨B, 0, none⟩)]] w fun e w' => e = .returned (.int .i64 E) ∧ Blk w' M #[.int .i64 m1, .int .i64 g1, .int .i64 f1, x3, x4, x5, x6, x7, x8, x9, x10, x11, x12, x13] 77 ∧ Kept [M] w w' := by
 have HC : Hid (Calls Tryz.prog 73 #[.pointer (some ⟨B, 0, none⟩)] w fun e w' => e = .returned (.tuple #[.agg #[.int .i64 m1, .int .i64 g1, .int .i64 f1], .int .i64 E]) ∧ Below w.heap.size w w') := hc
 have HM : Hid (Blk w M #[.int .i64 m, .int .i64 g, .int .i64 f, x3, x4, x5, x6, x7, x8, x9, x10, x11, x12, x13] 77) := hM
 have hMl := hM.lt
 clear hc hM
 go_enter Tryz.func72, Tryz.ntmps72
 go_wp2_with fail
 refine HC.out.mono ?_
 rintro e w1 ⟨rfl, b1⟩
 obtain ⟨P, hP⟩ : ∃ P, P = w1.heap.size := ⟨_, rfl⟩
 obtain ⟨V, hV⟩ : ∃ V, V = w1.alloc (.cells #[.int .i64 m1, .int .i64 g1, .int .i64 f1] 36) := ⟨_, rfl⟩
 have bV : Below w.heap.size w V := by rw [hV]; exact b1.alloc b1.size _
 have HMV : Hid (Blk V M #[.int .i64 m, .int .i64 g, .int .i64 f, x3, x4, x5, x6, x7, x8, x9, x10, x11, x12, x13] 77) := HM.out.below bV hMl
 have HPV : Hid (Blk V P #[.int .i64 m1, .int .i64 g1, .int .i64 f1] 36) := by rw [hP]; exact Blk.newE hV
 have hPs := b1.size
 obtain ⟨W, hW⟩ : ∃ W, W = ((V.setCell ⟨M, 0, none⟩ (.int .i64 m1)).setCell ⟨M, 1, none⟩ (.int .i64 g1)).setCell ⟨M, 2, none⟩ (.int .i64 f1) := ⟨_, rfl⟩
 have HMW : Hid (Blk W M #[.int .i64 m1, .int .i64 g1, .int .i64 f1, x3, x4, x5, x6, x7, x8, x9, x10, x11, x12, x13] 77) := by
  have := ((HMV.out.set 0 (.int .i64 m1)).set 1 (.int .i64 g1)).set 2 (.int .i64 f1)
  rw [hW]; simpa [Hid] using this
 have HKW : Hid (Kept [M] w W) := by rw [hW]; exact ((Kept.refl _ _).below bV).put3 (by simp) _ _ _
 obtain ⟨z0, z1, z2⟩ := HPV.out.three
 have y0 := HMV.out.cell (j := 0) (u := .int .i64 m) rfl
 have y1 := HMV.out.cell (j := 1) (u := .int .i64 g) rfl
 have y2 := HMV.out.cell (j := 2) (u := .int .i64 f) rfl
 have fM := HMV.out.free
 have lM := HMV.out.lt
 clear HM HC b1 bV HMV HPV
 go_upto_region 2 with fail
 rw [← hV]
 try rw [← hP]
 clear hV hP
 go_wp2
 rw [← hW]
 go_ret
 exact ⟨rfl, HMW.out, HKW.out⟩
set_option maxHeartbeats 4000000 in
set_option maxRecDepth 100000 in
theorem dkSet2_any (B C M : Nat) (m g f : Int) (x3 x4 x5 x6 x7 x8 x9 x10 x11 x12 x13 : Value) (m1 g1 f1 E : Int) (w : World) (hM : Blk w M #[.int .i64 m, .int .i64 g, .int .i64 f, x3, x4, x5, x6, x7, x8, x9, x10, x11, x12, x13] 77) (hc : Calls Tryz.prog 75 #[.pointer (some ⟨B, 0, none⟩), .pointer (some ⟨C, 0, none⟩)] w fun e w' => e = .returned (.tuple #[.agg #[.int .i64 m1, .int .i64 g1, .int .i64 f1], .int .i64 E]) ∧ Below w.heap.size w w') :
  Calls Tryz.prog 72 #[.pointer (some ⟨M, 0, none⟩), .func (.func 75) #[] #[.pointer (some ⟨B, 0, none⟩), .pointer (some ⟨C, 0, none⟩)]] w fun e w' => e = .returned (.int .i64 E) ∧ Blk w' M #[.int .i64 m1, .int .i64 g1, .int .i64 f1, x3, x4, x5, x6, x7, x8, x9, x10, x11, x12, x13] 77 ∧ Kept [M] w w' := by
 have HC : Hid (Calls Tryz.prog 75 #[.pointer (some ⟨B, 0, none⟩), .pointer (some ⟨C, 0, none⟩)] w fun e w' => e = .returned (.tuple #[.agg #[.int .i64 m1, .int .i64 g1, .int .i64 f1], .int .i64 E]) ∧ Below w.heap.size w w') := hc
 have HM : Hid (Blk w M #[.int .i64 m, .int .i64 g, .int .i64 f, x3, x4, x5, x6, x7, x8, x9, x10, x11, x12, x13] 77) := hM
 have hMl := hM.lt
 clear hc hM
 go_enter Tryz.func72, Tryz.ntmps72
 go_wp2_with fail
 refine HC.out.mono ?_
 rintro e w1 ⟨rfl, b1⟩
 obtain ⟨P, hP⟩ : ∃ P, P = w1.heap.size := ⟨_, rfl⟩
 obtain ⟨V, hV⟩ : ∃ V, V = w1.alloc (.cells #[.int .i64 m1, .int .i64 g1, .int .i64 f1] 36) := ⟨_, rfl⟩
 have bV : Below w.heap.size w V := by rw [hV]; exact b1.alloc b1.size _
 have HMV : Hid (Blk V M #[.int .i64 m, .int .i64 g, .int .i64 f, x3, x4, x5, x6, x7, x8, x9, x10, x11, x12, x13] 77) := HM.out.below bV hMl
 have HPV : Hid (Blk V P #[.int .i64 m1, .int .i64 g1, .int .i64 f1] 36) := by rw [hP]; exact Blk.newE hV
 have hPs := b1.size
 obtain ⟨W, hW⟩ : ∃ W, W = ((V.setCell ⟨M, 0, none⟩ (.int .i64 m1)).setCell ⟨M, 1, none⟩ (.int .i64 g1)).setCell ⟨M, 2, none⟩ (.int .i64 f1) := ⟨_, rfl⟩
 have HMW : Hid (Blk W M #[.int .i64 m1, .int .i64 g1, .int .i64 f1, x3, x4, x5, x6, x7, x8, x9, x10, x11, x12, x13] 77) := by
  have := ((HMV.out.set 0 (.int .i64 m1)).set 1 (.int .i64 g1)).set 2 (.int .i64 f1)
  rw [hW]; simpa [Hid] using this
 have HKW : Hid (Kept [M] w W) := by rw [hW]; exact ((Kept.refl _ _).below bV).put3 (by simp) _ _ _
 obtain ⟨z0, z1, z2⟩ := HPV.out.three
 have y0 := HMV.out.cell (j := 0) (u := .int .i64 m) rfl
 have y1 := HMV.out.cell (j := 1) (u := .int .i64 g) rfl
 have y2 := HMV.out.cell (j := 2) (u := .int .i64 f) rfl
 have fM := HMV.out.free
 have lM := HMV.out.lt
 clear HM HC b1 bV HMV HPV
 go_upto_region 2 with fail
 rw [← hV]
 try rw [← hP]
 clear hV hP
 go_wp2
 rw [← hW]
 go_ret
 exact ⟨rfl, HMW.out, HKW.out⟩
set_option maxHeartbeats 4000000 in
set_option maxRecDepth 100000 in
theorem dkSet3_any (B M : Nat) (m g f : Int) (x3 x4 x5 x6 x7 x8 x9 x10 x11 x12 x13 : Value) (m1 g1 f1 E : Int) (w : World) (hM : Blk w M #[.int .i64 m, .int .i64 g, .int .i64 f, x3, x4, x5, x6, x7, x8, x9, x10, x11, x12, x13] 77) (hc : Calls Tryz.prog 78 #[.pointer (some ⟨B, 0, none⟩)] w fun e w' => e = .returned (.tuple #[.agg #[.int .i64 m1, .int .i64 g1, .int .i64 f1], .int .i64 E]) ∧ Below w.heap.size w w') :
  Calls Tryz.prog 72 #[.pointer (some ⟨M, 0, none⟩), .func (.func 78) #[] #[.pointer (some ⟨B, 0, none⟩)]] w fun e w' => e = .returned (.int .i64 E) ∧ Blk w' M #[.int .i64 m1, .int .i64 g1, .int .i64 f1, x3, x4, x5, x6, x7, x8, x9, x10, x11, x12, x13] 77 ∧ Kept [M] w w' := by
 have HC : Hid (Calls Tryz.prog 78 #[.pointer (some ⟨B, 0, none⟩)] w fun e w' => e = .returned (.tuple #[.agg #[.int .i64 m1, .int .i64 g1, .int .i64 f1], .int .i64 E]) ∧ Below w.heap.size w w') := hc
 have HM : Hid (Blk w M #[.int .i64 m, .int .i64 g, .int .i64 f, x3, x4, x5, x6, x7, x8, x9, x10, x11, x12, x13] 77) := hM
 have hMl := hM.lt
 clear hc hM
 go_enter Tryz.func72, Tryz.ntmps72
 go_wp2_with fail
 refine HC.out.mono ?_
 rintro e w1 ⟨rfl, b1⟩
 obtain ⟨P, hP⟩ : ∃ P, P = w1.heap.size := ⟨_, rfl⟩
 obtain ⟨V, hV⟩ : ∃ V, V = w1.alloc (.cells #[.int .i64 m1, .int .i64 g1, .int .i64 f1] 36) := ⟨_, rfl⟩
 have bV : Below w.heap.size w V := by rw [hV]; exact b1.alloc b1.size _
 have HMV : Hid (Blk V M #[.int .i64 m, .int .i64 g, .int .i64 f, x3, x4, x5, x6, x7, x8, x9, x10, x11, x12, x13] 77) := HM.out.below bV hMl
 have HPV : Hid (Blk V P #[.int .i64 m1, .int .i64 g1, .int .i64 f1] 36) := by rw [hP]; exact Blk.newE hV
 have hPs := b1.size
 obtain ⟨W, hW⟩ : ∃ W, W = ((V.setCell ⟨M, 0, none⟩ (.int .i64 m1)).setCell ⟨M, 1, none⟩ (.int .i64 g1)).setCell ⟨M, 2, none⟩ (.int .i64 f1) := ⟨_, rfl⟩
 have HMW : Hid (Blk W M #[.int .i64 m1, .int .i64 g1, .int .i64 f1, x3, x4, x5, x6, x7, x8, x9, x10, x11, x12, x13] 77) := by
  have := ((HMV.out.set 0 (.int .i64 m1)).set 1 (.int .i64 g1)).set 2 (.int .i64 f1)
  rw [hW]; simpa [Hid] using this
 have HKW : Hid (Kept [M] w W) := by rw [hW]; exact ((Kept.refl _ _).below bV).put3 (by simp) _ _ _
 obtain ⟨z0, z1, z2⟩ := HPV.out.three
 have y0 := HMV.out.cell (j := 0) (u := .int .i64 m) rfl
 have y1 := HMV.out.cell (j := 1) (u := .int .i64 g) rfl
 have y2 := HMV.out.cell (j := 2) (u := .int .i64 f) rfl
 have fM := HMV.out.free
 have lM := HMV.out.lt
 clear HM HC b1 bV HMV HPV
 go_upto_region 2 with fail
 rw [← hV]
 try rw [← hP]
 clear hV hP
 go_wp2
 rw [← hW]
 go_ret
 exact ⟨rfl, HMW.out, HKW.out⟩
set_option maxHeartbeats 8000000 in
set_option maxRecDepth 100000 in
theorem dkFeed_any (S : Nat → Prop) (M : Nat) (T T' : Tr) (cl : Nat) (er : Int) (s : List UInt8) (x0 x1 x2 x3 x4 x5 : Value) (hv bv gv ov x13 : Value) (w : World) (hf : feedA T s = (T', cl, er)) (hM : Blk w M #[x0, x1, x2, x3, x4, x5, .int .i64 T.last, .int .i64 T.next, hv, bv, .int .i64 T.first, gv, ov, x13] 77) (hr : TrIn S w hv bv gv ov T) :
  Calls Tryz.prog 71 #[.pointer (some ⟨M, 0, none⟩), .string (ba s)] w fun e w' => e = .returned (.int .i64 er) ∧ (∃ hv' bv' gv' ov', Blk w' M #[x0, x1, x2, x3, x4, x5, .int .i64 T'.last, .int .i64 T'.next, hv', bv', .int .i64 T'.first, gv', ov', x13] 77 ∧ TrIn (fun g => g ≠ M ∧ w.heap.size ≤ g) w' hv' bv' gv' ov' T') ∧ Kept [M] w w' := by
 obtain ⟨ha, hc, bo, bc, ga, gc, oa, oc, eh, eb, eg, eo⟩ := hr.slices
 obtain ⟨hn, hhn⟩ : ∃ x, x = T.h.length := ⟨_, rfl⟩
 obtain ⟨bn, hbn⟩ : ∃ x, x = T.o.length := ⟨_, rfl⟩
 obtain ⟨ln, hln⟩ : ∃ x, x = T.L.length := ⟨_, rfl⟩
 obtain ⟨lo, hlo⟩ : ∃ x, x = T.O.length := ⟨_, rfl⟩
 rw [← hhn] at eh
 rw [← hbn] at eb
 rw [← hln] at eg
 rw [← hlo] at eo
 have HF : Hid (Calls Tryz.prog 23 #[.agg #[.int .i64 T.last, .int .i64 T.next, hv, bv, .int .i64 T.first, gv, ov], .string (ba s)] w fun e w' => ∃ la1 ne1 ha1 hn1 hc1 oa1 on1 oc1 fi1 ga1 gn1 gc1 pa1 pn1 pc1, e = .returned (.tuple #[.agg #[.int .i64 la1, .int .i64 ne1, .slice ha1 hn1 hc1, .slice oa1 on1 oc1, .int .i64 fi1, .slice ga1 gn1 gc1, .slice pa1 pn1 pc1], .int .i64 cl, .int .i64 er]) ∧ Hid (la1 = T'.last ∧ ne1 = T'.next ∧ fi1 = T'.first ∧ gn1 = T'.L.length) ∧ Hid (TrIn (fun g => w.heap.size ≤ g) w' (.slice ha1 hn1 hc1) (.slice oa1 on1 oc1) (.slice ga1 gn1 gc1) (.slice pa1 pn1 pc1) T') ∧ Below w.heap.size w w') := begFeed T T' s cl er _ _ _ _ _ _ _ _ w hf rfl rfl rfl hr
 obtain ⟨last, hla⟩ : ∃ x, x = T.last := ⟨_, rfl⟩
 obtain ⟨next, hne⟩ : ∃ x, x = T.next := ⟨_, rfl⟩
 obtain ⟨first, hfi⟩ : ∃ x, x = T.first := ⟨_, rfl⟩
 rw [← hla, ← hne, ← hfi] at HF hM
 have HM : Hid (Blk w M #[x0, x1, x2, x3, x4, x5, .int .i64 last, .int .i64 next, hv, bv, .int .i64 first, gv, ov, x13] 77) := hM
 have hMl := hM.lt
 obtain ⟨QF, hQF⟩ : ∃ Q : World → Prop, Q = fun w' => ∃ hv' bv' gv' ov', Blk w' M #[x0, x1, x2, x3, x4, x5, .int .i64 T'.last, .int .i64 T'.next, hv', bv', .int .i64 T'.first, gv', ov', x13] 77 ∧ TrIn (fun g => g ≠ M ∧ w.heap.size ≤ g) w' hv' bv' gv' ov' T' := ⟨_, rfl⟩
 suffices hgoal : Calls Tryz.prog 71 #[.pointer (some ⟨M, 0, none⟩), .string (ba s)] w fun e w' => e = .returned (.int .i64 er) ∧ QF w' ∧ Kept [M] w w' by
  rw [hQF] at hgoal; exact hgoal
 have HQ : Hid (∀ w' hv' bv' gv' ov' (la1 ne1 fi1 : Int), la1 = T'.last → ne1 = T'.next → fi1 = T'.first → Blk w' M #[x0, x1, x2, x3, x4, x5, .int .i64 la1, .int .i64 ne1, hv', bv', .int .i64 fi1, gv', ov', x13] 77 → TrIn (fun g => g ≠ M ∧ w.heap.size ≤ g) w' hv' bv' gv' ov' T' → QF w') := fun w' hv' bv' gv' ov' la1 ne1 fi1 e1 e2 e3 h1 h2 => by
  subst e1 e2 e3
  rw [hQF]; exact ⟨_, _, _, _, h1, h2⟩
 clear hf hM hr hla hne hfi hhn hbn hln hlo hQF
 subst eh eb eg eo
 obtain ⟨y0, y1, y2, y3, y4, y5, y6, y7, y8, y9, y10, y11, y12, y13⟩ := HM.out.fourteen
 go_enter Tryz.func71, Tryz.ntmps71
 go_wp2_with fail
 refine HF.out.mono ?_
 rintro e w1 ⟨la1, ne1, ha1, hn1, hc1, oa1, on1, oc1, fi1, ga1, gn1, gc1, pa1, pn1, pc1, rfl, G1, T1, b1⟩
 obtain ⟨P, hP⟩ : ∃ P, P = w1.heap.size := ⟨_, rfl⟩
 obtain ⟨V, hV⟩ : ∃ V, V = w1.alloc (.cells #[.int .i64 la1, .int .i64 ne1, .slice ha1 hn1 hc1, .slice oa1 on1 oc1, .int .i64 fi1, .slice ga1 gn1 gc1, .slice pa1 pn1 pc1] 34) := ⟨_, rfl⟩
 have bV : Below w.heap.size w V := by rw [hV]; exact b1.alloc b1.size _
 have bV1 : Below w1.heap.size w1 V := by rw [hV]; exact (Below.refl _ _).alloc (Nat.le_refl _) _
 have HMV : Hid (Blk V M #[x0, x1, x2, x3, x4, x5, .int .i64 last, .int .i64 next, .slice ha hn hc, .slice bo bn bc, .int .i64 first, .slice ga ln gc, .slice oa lo oc, x13] 77) := HM.out.below bV hMl
 have HPV : Hid (Blk V P #[.int .i64 la1, .int .i64 ne1, .slice ha1 hn1 hc1, .slice oa1 on1 oc1, .int .i64 fi1, .slice ga1 gn1 gc1, .slice pa1 pn1 pc1] 34) := by rw [hP]; exact Blk.newE hV
 have hPs := b1.size
 obtain ⟨W, hW⟩ : ∃ W, W = ((((((V.setCell ⟨M, 6, none⟩ (.int .i64 la1)).setCell ⟨M, 7, none⟩ (.int .i64 ne1)).setCell ⟨M, 8, none⟩ (.slice ha1 hn1 hc1)).setCell ⟨M, 9, none⟩ (.slice oa1 on1 oc1)).setCell ⟨M, 10, none⟩ (.int .i64 fi1)).setCell ⟨M, 11, none⟩ (.slice ga1 gn1 gc1)).setCell ⟨M, 12, none⟩ (.slice pa1 pn1 pc1) := ⟨_, rfl⟩
 have HMW : Hid (Blk W M #[x0, x1, x2, x3, x4, x5, .int .i64 la1, .int .i64 ne1, .slice ha1 hn1 hc1, .slice oa1 on1 oc1, .int .i64 fi1, .slice ga1 gn1 gc1, .slice pa1 pn1 pc1, x13] 77) := by
  have := ((((((HMV.out.set 6 (.int .i64 la1)).set 7 (.int .i64 ne1)).set 8 (.slice ha1 hn1 hc1)).set 9 (.slice oa1 on1 oc1)).set 10 (.int .i64 fi1)).set 11 (.slice ga1 gn1 gc1)).set 12 (.slice pa1 pn1 pc1)
  rw [hW]; simpa [Hid] using this
 have hKV : Kept [M] V W := by
  rw [hW]
  exact (((((((Kept.refl [M] V).setCell (p := ⟨M, 6, none⟩) (by simp) _).setCell (p := ⟨M, 7, none⟩) (by simp) _).setCell (p := ⟨M, 8, none⟩) (by simp) _).setCell (p := ⟨M, 9, none⟩) (by simp) _).setCell (p := ⟨M, 10, none⟩) (by simp) _).setCell (p := ⟨M, 11, none⟩) (by simp) _).setCell (p := ⟨M, 12, none⟩) (by simp) _
 have HKW : Hid (Kept [M] w W) := ((Kept.refl _ _).below bV).trans hKV
 have HTW : Hid (TrIn (fun g => g ≠ M ∧ w.heap.size ≤ g) W (.slice ha1 hn1 hc1) (.slice oa1 on1 oc1) (.slice ga1 gn1 gc1) (.slice pa1 pn1 pc1) T') := (T1.out.below bV1).to (hKV.sameOn (fun g h => by simp; omega)) (fun g _ h => ⟨by omega, h⟩)
 have HQW : Hid (QF W) := HQ.out W _ _ _ _ la1 ne1 fi1 G1.out.1 G1.out.2.1 G1.out.2.2.1 HMW.out HTW.out
 obtain ⟨z0, z1, z2, z3, z4, z5, z6⟩ := HPV.out.sevenc
 clear y0 y1 y2 y3 y4 y5 y6 y7 y8 y9 y10 y11 y12 y13
 obtain ⟨y0, y1, y2, y3, y4, y5, y6, y7, y8, y9, y10, y11, y12, y13⟩ := HMV.out.fourteen
 have fM := HMV.out.free
 have lM := HMV.out.lt
 clear HM HF b1 bV bV1 HMV HPV HQ hKV HTW HMW T1 G1
 go_upto_region 2 with fail
 rw [← hV]
 try rw [← hP]
 clear hV hP
 go_wp2
 rw [← hW]
 go_ret
 exact ⟨rfl, HQW.out, HKW.out⟩
set_option maxHeartbeats 4000000 in
set_option maxRecDepth 100000 in
theorem checkAct_any (kind n : Int) (x : ByteArray) (w : World) :
  Calls Tryz.prog 67 #[.agg #[.int .i64 kind, .int .i64 n, .string x]] w fun e w' => e = .returned (.int .i64 (actE kind n x)) ∧ Below w.heap.size w w' := by
 obtain ⟨E, hE⟩ : ∃ E, E = actE kind n x := ⟨_, rfl⟩
 have HE : Hid (E = if kind < 1 ∨ 5 < kind then 6 else if (¬ kind = 1 ∧ ¬ x = ByteArray.empty) ∨ (kind < 4 ∧ ¬ n = 0) then 1 else 0) := hE
 have HB : Hid (Below w.heap.size w (w.alloc (.cells #[.int .i64 kind, .int .i64 n, .string x] 47))) := (Below.refl _ _).alloc (Nat.le_refl _) _
 rw [← hE]
 clear hE
 go_enter Tryz.func67, Tryz.ntmps67
 by_cases h1 : kind < 1
 ·have he : Hid (E = 6) := by show E = _; rw [HE.out, if_pos (.inl h1)]
  go_wp2
  go_ret
  exact ⟨by rw [he.out]; rfl, HB.out⟩
 by_cases h5 : 5 < kind
 ·have he : Hid (E = 6) := by show E = _; rw [HE.out, if_pos (.inr h5)]
  go_wp2
  go_ret
  exact ⟨by rw [he.out]; rfl, HB.out⟩
 have HE2 : Hid (E = if (¬ kind = 1 ∧ ¬ x = ByteArray.empty) ∨ (kind < 4 ∧ ¬ n = 0) then 1 else 0) := by show E = _; rw [HE.out, if_neg (by omega)]
 clear HE
 obtain ⟨b, hb⟩ : ∃ b, b = x.toList.isEmpty := ⟨_, rfl⟩
 have HX : Hid (b = true ↔ x = ByteArray.empty) := by
  show _ ↔ _
  rw [hb, ByteArray.toList_eq]
  constructor
  ·intro h
   exact ByteArray.ext (Array.ext' (by simpa using h))
  ·intro h
   rw [h]; rfl
 have hxb : x.toList.isEmpty = b := hb.symm
 clear hb
 by_cases hn : n = 0
 ·subst hn
  have h5 : kind = 1 ∨ kind = 2 ∨ kind = 3 ∨ kind = 4 ∨ kind = 5 := by omega
  rcases h5 with rfl | rfl | rfl | rfl | rfl
  ·have he : Hid (E = 0) := by show E = _; rw [HE2.out, if_neg (by simp)]
   clear HX HE2
   cases b
   all_goals
    go_wp2
    go_ret
    exact ⟨by rw [he.out]; rfl, HB.out⟩
  all_goals
   cases b
   ·have he : Hid (E = 1) := by
     show E = _
     rw [HE2.out, if_pos (.inl ⟨by decide, fun h => by have := HX.out.2 h; cases this⟩)]
    clear HX HE2
    go_wp2
    go_ret
    exact ⟨by rw [he.out]; rfl, HB.out⟩
   ·have he : Hid (E = 0) := by
     show E = _
     rw [HE2.out, if_neg (by rintro (⟨_, h⟩ | ⟨_, h⟩); exact h (HX.out.1 rfl); exact h rfl)]
    clear HX HE2
    go_wp2
    go_ret
    exact ⟨by rw [he.out]; rfl, HB.out⟩
 ·have hnb : (n == 0) = false := by simpa using hn
  have h5 : kind = 1 ∨ kind = 2 ∨ kind = 3 ∨ kind = 4 ∨ kind = 5 := by omega
  rcases h5 with rfl | rfl | rfl | rfl | rfl
  iterate 3
   ·have he : Hid (E = 1) := by show E = _; rw [HE2.out, if_pos (.inr ⟨by decide, hn⟩)]
    clear HX HE2
    cases b
    all_goals
     go_wp2
     go_ret
     exact ⟨by rw [he.out]; rfl, HB.out⟩
  all_goals
   cases b
   ·have he : Hid (E = 1) := by
     show E = _
     rw [HE2.out, if_pos (.inl ⟨by decide, fun h => by have := HX.out.2 h; cases this⟩)]
    clear HX HE2
    go_wp2
    go_ret
    exact ⟨by rw [he.out]; rfl, HB.out⟩
   ·have he : Hid (E = 0) := by
     show E = _
     rw [HE2.out, if_neg (by rintro (⟨_, h⟩ | ⟨h, _⟩); exact h (HX.out.1 rfl); exact absurd h (by decide))]
    clear HX HE2
    go_wp2
    go_ret
    exact ⟨by rw [he.out]; rfl, HB.out⟩
set_option maxHeartbeats 4000000 in
set_option maxRecDepth 100000 in
theorem checkViewer_any (v : Vw) (w : World) :
  Calls Tryz.prog 66 #[.agg #[.int .i64 v.m, .int .i64 v.g, .int .i64 v.f, .int .i64 v.l, .int .i64 v.t, .int .i64 v.s]] w fun e w' => e = .returned (.int .i64 v.chk) ∧ Below w.heap.size w w' := by
 obtain ⟨m, g, f, l, t, s⟩ := v
 simp only
 obtain ⟨E, hE⟩ : ∃ E, E = Vw.chk ⟨m, g, f, l, t, s⟩ := ⟨_, rfl⟩
 obtain ⟨C, hC⟩ : ∃ C, C = curE m g f := ⟨_, rfl⟩
 obtain ⟨O, hO⟩ : ∃ C, C = outE l t s := ⟨_, rfl⟩
 obtain ⟨b, hb⟩ : ∃ b, b = (m == 0 && (g == 0 && f == 0)) := ⟨_, rfl⟩
 have HE : Hid (E = if b = true ∨ C = 0 then O else C) := by show E = _; rw [hE, hb, hC, hO]; rfl
 have HC : Hid (∀ U : World, Calls Tryz.prog 109 #[.agg #[.int .i64 m, .int .i64 g, .int .i64 f]] U fun e w' => e = .returned (.int .i64 C) ∧ Below U.heap.size U w') := fun U => by rw [hC]; exact curCheck_any m g f U
 have HO : Hid (∀ U : World, Calls Tryz.prog 56 #[.agg #[.int .i64 l, .int .i64 t, .int .i64 s]] U fun e w' => e = .returned (.int .i64 O) ∧ Below U.heap.size U w') := fun U => by rw [hO]; exact outCheck_any l t s U
 have HU : Hid (∀ U : World, Calls Tryz.prog 77 #[.agg #[.int .i64 m, .int .i64 g, .int .i64 f]] U fun e w' => e = .returned (.bool b) ∧ Below U.heap.size U w') := fun U => by rw [hb]; exact isUnset_any m g f U
 rw [← hE]
 clear hE hC hO hb
 obtain ⟨W, hW⟩ : ∃ W, W = w.alloc (.cells #[.int .i64 m, .int .i64 g, .int .i64 f, .int .i64 l, .int .i64 t, .int .i64 s] 40) := ⟨_, rfl⟩
 have HS : Hid (Stay W (fun U => Blk U w.heap.size #[.int .i64 m, .int .i64 g, .int .i64 f, .int .i64 l, .int .i64 t, .int .i64 s] 40 ∧ Below w.heap.size w U)) := by
  have b : Below w.heap.size w W := by rw [hW]; exact (Below.refl _ w).alloc (Nat.le_refl _) _
  exact (Blk.newE hW).stay.and (below_stay b b.size)
 have six : ∀ {U : World} {a : Nat} {x0 x1 x2 x3 x4 x5 : Value} {t : TypeId}, Blk U a #[x0, x1, x2, x3, x4, x5] t → U.cell? ⟨a, 0, none⟩ = some x0 ∧ U.cell? ⟨a, 1, none⟩ = some x1 ∧ U.cell? ⟨a, 2, none⟩ = some x2 ∧ U.cell? ⟨a, 3, none⟩ = some x3 ∧ U.cell? ⟨a, 4, none⟩ = some x4 ∧ U.cell? ⟨a, 5, none⟩ = some x5 := fun h => ⟨h.cell rfl, h.cell rfl, h.cell rfl, h.cell rfl, h.cell rfl, h.cell rfl⟩
 obtain ⟨y0, y1, y2, y3, y4, y5⟩ := six HS.out.now.1
 go_enter Tryz.func66, Tryz.ntmps66
 go_upto_region 1 with fail
 rw [← hW]
 clear hW
 go_wp2_with fail
 refine (HC.out W).mono ?_
 rintro e w1 ⟨rfl, b1⟩
 have HS1 := Stay.go HS b1
 clear b1 HS HC y0 y1 y2 y3 y4 y5
 obtain ⟨y0, y1, y2, y3, y4, y5⟩ := six HS1.out.now.1
 by_cases h0 : C = 0
 ·have he : Hid (E = O) := by show E = _; rw [HE.out, if_pos (.inr h0)]
  have BW : Hid (Below w.heap.size w w1) := HS1.out.now.2
  subst h0
  clear HU HE HS1
  go_wp2_with fail
  refine (HO.out w1).mono ?_
  rintro e w2 ⟨rfl, b2⟩
  have BW2 : Hid (Below w.heap.size w w2) := BW.out.trans (b2.mono BW.out.size)
  clear b2 y0 y1 y2 y3 y4 y5
  go_wp2
  go_ret
  exact ⟨by rw [he.out]; rfl, BW2.out⟩
 ·go_wp2_with fail
  refine (HU.out w1).mono ?_
  rintro e w2 ⟨rfl, b2⟩
  have HS2 := Stay.go HS1 b2
  clear b2 HS1 HU y0 y1 y2 y3 y4 y5
  obtain ⟨y0, y1, y2, y3, y4, y5⟩ := six HS2.out.now.1
  have BW : Hid (Below w.heap.size w w2) := HS2.out.now.2
  cases b
  ·have he : Hid (E = C) := by show E = _; rw [HE.out, if_neg (by rintro (h | h); cases h; exact h0 h)]
   clear HE HO HS2
   go_wp2
   go_ret
   exact ⟨by rw [he.out]; rfl, BW.out⟩
  ·have he : Hid (E = O) := by show E = _; rw [HE.out, if_pos (.inl rfl)]
   clear HE HS2
   go_wp2_with fail
   refine (HO.out w2).mono ?_
   rintro e w3 ⟨rfl, b3⟩
   have BW3 : Hid (Below w.heap.size w w3) := BW.out.trans (b3.mono BW.out.size)
   clear b3 y0 y1 y2 y3 y4 y5
   go_wp2
   go_ret
   exact ⟨by rw [he.out]; rfl, BW3.out⟩
section
variable {P : Program} {Q : Exit → Act → World → Prop}
theorem region_mainG {id : Nat} {a : Act} {w : World} {l : List Oper} (hm : P.follows .mixedOrders = true) (hB : regOkG l = true) (ks : List Kd) (c : Nat) (hK : mainOk ks l c a.tmps.size = true)
  (Pm : (Nat → Prop) → Value → World → Prop)
  (hloc : ∀ S r w1 w2, Pm S r w1 → w1.heap.size ≤ w2.heap.size → (∀ g, S g → g < w1.heap.size → w2.heap[g]? = w1.heap[g]?) → Pm S r w2)
  (hstep : ∀ i o, l[i]? = some o → ∀ (a' : Act) (w' : World) (r : Value), Below w.heap.size w w' → (∀ s, (l.all fun o => o.dst != some s) = true → a'.eval (.tmp s) = a.eval (.tmp s)) → (∀ j v, waits l i j = true → (kdAt ks j).val r = some v → a'.eval (.tmp (dstOf l j)) = v) →
   (Region.wanted o (yielded l.toArray a'.tmps) = false ∧ kdAt ks i = .quiet undef) ∨ (Region.wanted o (yielded l.toArray a'.tmps) = true ∧ match kdAt ks i with
   | .quiet v => (execOp a'.eval o).run P w' = .ok (.value v) w'
   | .qcall v => ∃ f args, (execOp a'.eval o).run P w' = .ok (.enter f args) w' ∧ Calls P f args w' fun e w'' => e = .returned v ∧ Below w'.heap.size w' w''
   | .main => ∃ f args, (execOp a'.eval o).run P w' = .ok (.enter f args) w' ∧ Calls P f args w' fun e w'' => ∃ r, e = .returned r ∧ Pm (fun g => g < w''.heap.size ∧ (g < w.heap.size ∨ w'.heap.size ≤ g)) r w'' ∧ Below w'.heap.size w' w''
   | .fin f => ∀ S, Pm S r w' → (execOp a'.eval o).run P w' = .ok (.value (f r)) w'
   | .box t z => (execOp a'.eval o).run P w' = .ok (.value (.pointer (some ⟨w'.heap.size, 0, none⟩))) (w'.alloc (.cells z t))
   | .put b f => ∀ S, Pm S r w' → ∀ t z g C, kdAt ks b = .box t z → Blk w' g C t → C.size = z.size → a'.eval (.tmp (dstOf l b)) = .pointer (some ⟨g, 0, none⟩) → ∃ w'', (execOp a'.eval o).run P w' = .ok .skip w'' ∧ w''.heap.size = w'.heap.size ∧ Blk w'' g (f r) t ∧ (f r).size = z.size ∧ (∀ j, j ≠ g → w''.heap[j]? = w'.heap[j]?) ∧ w''.os = w'.os ∧ w''.tape = w'.tape ∧ w''.output = w'.output))
  (hend : ∀ (r : Value) (gs : Nat → Nat) (S : Nat → Prop) (w' : World), Below w.heap.size w w' → Pm S r w' → (∀ g, S g → g < w'.heap.size) →
   (∀ b t z, b < l.length → kdAt ks b = .box t z → w.heap.size ≤ gs b ∧ ¬ S (gs b) ∧ ∃ C, Blk w' (gs b) C t ∧ ∀ j f, j < l.length → kdAt ks j = .put b f → C = f r) →
   (∀ b b' t z t' z', b < l.length → b' < l.length → b ≠ b' → kdAt ks b = .box t z → kdAt ks b' = .box t' z' → gs b ≠ gs b') → Q .normal (putK r gs 0 ks l a) w') :
  (Code.region id l.toArray true).wp P Q a w := by
 simp only [mainOk, Bool.and_eq_true, decide_eq_true_eq] at hK
 obtain ⟨⟨⟨⟨hlen, hcl⟩, hcm⟩, hdst⟩, hall⟩ := hK
 have hkc : kdAt ks c = .main := by cases h : kdAt ks c <;> rw [h] at hcm <;> first | rfl | cases hcm
 have hap : dstsApart l = true := by simp only [regOkG, Bool.and_eq_true] at hB; exact hB.1
 have hal : ∀ i, i < l.length → _ := fun i hi => List.all_eq_true.1 hall i (List.mem_range.2 hi)
 have hmu : ∀ i, i < l.length → kdAt ks i = .main → i = c := fun i hi hk => by
  have h := hal i hi
  simp only [Bool.and_eq_true] at h
  have h1 := h.1.1
  rw [hk] at h1
  simpa [Kd.isMain] using h1
 have hval : ∀ (L : Array Bool) (vs : Nat → Value) (i j : Nat) (o : Oper), l[i]? = some o → (∀ e ∈ o.after, Region.binds .any e = true → L.getD e.on false = true) → waits l i j = true → L.getD j false = true ∧ ∀ oj k, l[j]? = some oj → oj.dst = some k → (putL L vs 0 l a).eval (.tmp k) = vs j := fun L vs i j o ho hr hw => by
  have h1 := waits_spec hw ho hr
  refine ⟨h1, fun oj k hoj hk => putL_at h1 l 0 a oj hap (Nat.zero_le _) (by simpa using hoj) hk ?_⟩
  have := List.all_eq_true.1 hdst oj (List.mem_of_getElem? hoj)
  rw [hk] at this
  simpa using this
 refine wp_region_invG hm hB (fun L vs w' => RM w ks l.length c Pm (fun j => L.getD j false) vs w') ?_ ?_ ?_
 ·have hno : ∀ j, ¬ (Array.replicate l.length false).getD j false = true := fun j => by
   simp [Array.getD_eq_getD_getElem?, Array.getElem?_replicate]; split <;> simp
  exact ⟨⟨rfl, rfl, rfl, Nat.le_refl _, fun _ _ => rfl⟩, fun i h => absurd h (hno i), fun i _ h => absurd h (hno i), fun i h => absurd h (hno i), fun i _ _ h => absurd h (hno i), fun h => absurd h (hno c), fun i _ _ h => absurd h (hno i), fun i _ _ _ _ _ h => absurd h (hno i)⟩
 ·intro L vs w' F i o ho hL hr
  have hi : i < l.length := (List.getElem?_eq_some_iff.1 ho).1
  have ni : L.getD i false = false := by simpa using listed_no hL
  have hset := setfun hL
  have hwt := fun j => hval L vs i j o ho hr
  have hfree : ∀ s, (l.all fun o => o.dst != some s) = true → (putL L vs 0 l a).eval (.tmp s) = a.eval (.tmp s) := fun s hs => putL_other l 0 a (fun p hp t ht e => by
   injection e with e
   subst e
   have := List.all_eq_true.1 hs p hp
   rw [ht] at this
   simp at this)
  have hvals : ∀ j v, waits l i j = true → (kdAt ks j).val (vs c) = some v → (putL L vs 0 l a).eval (.tmp (dstOf l j)) = v := fun j v hw hv => by
   obtain ⟨h1, h2⟩ := hwt j hw
   have hjl : j < l.length := F.lt j h1
   have hoj : l[j]? = some l[j] := List.getElem?_eq_getElem hjl
   have h3 := hal j hjl
   simp only [Bool.and_eq_true] at h3
   have h4 := h3.2
   cases hd : l[j].dst with
   | none =>
    have : (l[j]?.map fun o => o.dst.isSome) = some false := by rw [hoj]; simp [hd]
    cases hk : kdAt ks j <;> rw [hk] at hv h4 <;> simp [Kd.val, this] at hv h4
   | some k =>
    rw [show dstOf l j = k by simp [dstOf, hoj, hd], h2 _ k hoj hd]
    exact F.val j v h1 hv
  have hs := hstep i o ho (putL L vs 0 l a) w' (vs c) F.below hfree hvals
  have hdeps := hal i hi
  simp only [Bool.and_eq_true] at hdeps
  rw [hset]
  obtain ⟨ls, hls⟩ : ∃ ls : Nat → Bool, ls = fun j => L.getD j false := ⟨_, rfl⟩
  have hlsj : ∀ j, L.getD j false = ls j := fun j => by rw [hls]
  simp only [hlsj] at F ni hwt ⊢
  have hcne : ∀ k, kdAt ks i = k → k.isMain = false → c ≠ i := fun k h1 h2 e => by subst e; rw [hkc] at h1; subst h1; cases h2
  have hupc : ∀ k v, kdAt ks i = k → k.isMain = false → upd vs i v c = vs c := fun k v h1 h2 => upd_ne (hcne k h1 h2)
  have hlt' : ∀ j, (decide (j = i) || ls j) = true → j < l.length := fun j hj => by
   simp only [Bool.or_eq_true, decide_eq_true_eq] at hj
   rcases hj with rfl | hj
   ·exact hi
   ·exact F.lt j hj
  have hres : ∀ j, waits l i j = true → (kdAt ks j).isRes = true → ls c = true := fun j hw hk => F.res j (hwt j hw).1 hk
  have plain : ∀ (k : Kd) (v : Value) (w'' : World), kdAt ks i = k → k.isMain = false → k.isBox = false → k.to = none → Below w'.heap.size w' w'' → (k.val (vs c) = some v) → (k.isRes = true → ls c = true) → RM w ks l.length c Pm (fun j => decide (j = i) || ls j) (upd vs i v) w'' := fun k v w'' hk h1 h2 h3 hb hv hrs => by
   have hsame : ∀ g, g < w'.heap.size → w''.heap[g]? = w'.heap[g]? := hb.block
   refine ⟨F.below.trans (hb.mono F.below.size), hlt', ?_, ?_, ?_, ?_, ?_, ?_⟩
   ·intro j u hj hu
    rw [hupc k v hk h1] at hu
    by_cases e : j = i
    ·subst e; rw [upd_at]; rw [hk, hv] at hu; injection hu
    ·rw [upd_ne e]; exact F.val j u (by simpa [e] using hj) hu
   ·intro j hj hjr
    by_cases e : j = i
    ·subst e; rw [hk] at hjr; simp [hrs hjr]
    ·simp [F.res j (by simpa [e] using hj) hjr]
   ·intro j b f hj hjk
    by_cases e : j = i
    ·subst e; rw [hk] at hjk; subst hjk; cases h3
    ·obtain ⟨e1, e2, e3⟩ := F.put j b f (by simpa [e] using hj) hjk
     rw [upd_ne e]; exact ⟨by simp [e1], by simp [e2], e3⟩
   ·intro hc
    have hc' : ls c = true := by simpa [hcne k hk h1] using hc
    obtain ⟨S, e1, e2, e3⟩ := F.main hc'
    rw [hupc k v hk h1]
    refine ⟨S, hloc S _ w' w'' e1 hb.size (fun g _ h => hsame g h), fun g hg => Nat.lt_of_lt_of_le (e2 g hg) hb.size, fun j t z g hj hjk hjv => ?_⟩
    by_cases e : j = i
    ·subst e; rw [hk] at hjk; subst hjk; cases h2
    ·rw [upd_ne e] at hjv; exact e3 j t z g (by simpa [e] using hj) hjk hjv
   ·intro j t z hj hjk
    by_cases e : j = i
    ·subst e; rw [hk] at hjk; subst hjk; cases h2
    ·obtain ⟨g, C, e1, e2, e3, e4, e5⟩ := F.box j t z (by simpa [e] using hj) hjk
     refine ⟨g, C, by rw [upd_ne e]; exact e1, e2, (hsame g e3.lt).trans e3, e4, fun q f hq hlq => ?_⟩
     rw [hupc k v hk h1]
     by_cases e' : q = i
     ·subst e'; rw [hk] at hq; subst hq; cases h3
     ·exact e5 q f hq (by simpa [e'] using hlq)
   ·intro p q t z t' z' hp hq hpq hpk hqk
    have e1 : p ≠ i := fun e => by subst e; rw [hk] at hpk; subst hpk; cases h2
    have e2 : q ≠ i := fun e => by subst e; rw [hk] at hqk; subst hqk; cases h2
    rw [upd_ne e1, upd_ne e2]
    exact F.apart p q t z t' z' (by simpa [e1] using hp) (by simpa [e2] using hq) hpq hpk hqk
  rcases hs with ⟨hwn, hk⟩ | ⟨hwn, hs⟩
  ·exact .inr ⟨hwn, undef, rfl, plain _ undef w' hk rfl rfl rfl (Below.refl _ _) rfl (fun h => by cases h)⟩
  refine .inl ⟨hwn, ?_⟩
  cases hk : kdAt ks i with
  | quiet v =>
   rw [hk] at hs
   exact oper_wp_ok hs ⟨v, rfl, plain _ v w' hk rfl rfl rfl (Below.refl _ _) rfl (fun h => by cases h)⟩
  | fin f =>
   rw [hk] at hs
   have h := hdeps.1.2
   rw [hk] at h
   obtain ⟨j, _, hj⟩ := List.any_eq_true.1 h
   simp only [Bool.and_eq_true] at hj
   have hlc := hres j hj.1 hj.2
   obtain ⟨S, p1, _⟩ := F.main hlc
   exact oper_wp_ok (hs S p1) ⟨_, rfl, plain _ _ w' hk rfl rfl rfl (Below.refl _ _) rfl (fun _ => hlc)⟩
  | qcall v =>
   rw [hk] at hs
   obtain ⟨f, args, h1, h2⟩ := hs
   unfold Oper.wp
   rw [h1, Oper.upon_enter]
   refine h2.mono ?_
   rintro e w'' ⟨rfl, hb⟩
   exact ⟨v, rfl, plain _ v w'' hk rfl rfl rfl hb rfl (fun h => by cases h)⟩
  | main =>
   rw [hk] at hs
   obtain ⟨f, args, h1, h2⟩ := hs
   have hic : i = c := hmu i hi hk
   subst hic
   unfold Oper.wp
   rw [h1, Oper.upon_enter]
   refine h2.mono ?_
   rintro e w'' ⟨r, rfl, hP, hb⟩
   refine ⟨r, rfl, F.below.trans (hb.mono F.below.size), hlt', ?_, fun _ _ _ => by simp, ?_, ?_, ?_, ?_⟩
   ·intro j u hj hu
    rw [upd_at] at hu
    by_cases e : j = i
    ·subst e; rw [upd_at]; rw [hk] at hu; simpa [Kd.val] using hu
    ·rw [upd_ne e]
     have hlj : ls j = true := by simpa [e] using hj
     have hnr : ¬ (kdAt ks j).isRes = true := fun h => by rw [F.res j hlj h] at ni; cases ni
     refine F.val j u hlj ?_
     cases hkj : kdAt ks j <;> rw [hkj] at hu hnr <;> simp [Kd.val, Kd.isRes] at hu hnr ⊢ <;> exact hu
   ·intro j b f hj hjk
    by_cases e : j = i
    ·subst e; rw [hk] at hjk; cases hjk
    ·have := (F.put j b f (by simpa [e] using hj) hjk).1
     rw [this] at ni; cases ni
   ·intro _
    rw [upd_at]
    refine ⟨_, hP, fun g hg => hg.1, fun j t z g hj hjk hjv hg => ?_⟩
    by_cases e : j = i
    ·subst e; rw [hk] at hjk; cases hjk
    ·rw [upd_ne e] at hjv
     obtain ⟨g', C, e1, e2, e3, _⟩ := F.box j t z (by simpa [e] using hj) hjk
     rw [hjv] at e1
     injection e1 with e1; injection e1 with e1; injection e1 with e1
     have := e3.lt
     rcases hg.2 with h | h <;> omega
   ·intro j t z hj hjk
    by_cases e : j = i
    ·subst e; rw [hk] at hjk; cases hjk
    ·obtain ⟨g, C, e1, e2, e3, e4, e5⟩ := F.box j t z (by simpa [e] using hj) hjk
     refine ⟨g, C, by rw [upd_ne e]; exact e1, e2, (hb.block g e3.lt).trans e3, e4, fun q f hq hlq => ?_⟩
     by_cases e' : q = i
     ·subst e'; rw [hk] at hq; cases hq
     ·have := (F.put q j f (by simpa [e'] using hlq) hq).1
      rw [this] at ni; cases ni
   ·intro p q t z t' z' hp hq hpq hpk hqk
    have e1 : p ≠ i := fun e => by subst e; rw [hk] at hpk; cases hpk
    have e2 : q ≠ i := fun e => by subst e; rw [hk] at hqk; cases hqk
    rw [upd_ne e1, upd_ne e2]
    exact F.apart p q t z t' z' (by simpa [e1] using hp) (by simpa [e2] using hq) hpq hpk hqk
  | box t z =>
   rw [hk] at hs
   refine oper_wp_ok hs ⟨_, rfl, ?_⟩
   have hb : Below w'.heap.size w' (w'.alloc (.cells z t)) := (Below.refl _ _).alloc (Nat.le_refl _) _
   have hnew : ∀ j t' z', ls j = true → kdAt ks j = .box t' z' → vs j ≠ .pointer (some ⟨w'.heap.size, 0, none⟩) := fun j t' z' hj hjk e => by
    obtain ⟨g, C, e1, _, e3, _⟩ := F.box j t' z' hj hjk
    rw [e] at e1
    injection e1 with e1; injection e1 with e1; injection e1 with e1
    have := e3.lt; omega
   refine ⟨F.below.trans (hb.mono F.below.size), hlt', ?_, ?_, ?_, ?_, ?_, ?_⟩
   ·intro j u hj hu
    rw [hupc _ _ hk rfl] at hu
    by_cases e : j = i
    ·subst e; rw [hk] at hu; cases hu
    ·rw [upd_ne e]; exact F.val j u (by simpa [e] using hj) hu
   ·intro j hj hjr
    by_cases e : j = i
    ·subst e; rw [hk] at hjr; cases hjr
    ·simp [F.res j (by simpa [e] using hj) hjr]
   ·intro j b f hj hjk
    by_cases e : j = i
    ·subst e; rw [hk] at hjk; cases hjk
    ·obtain ⟨e1, e2, e3⟩ := F.put j b f (by simpa [e] using hj) hjk
     rw [upd_ne e]; exact ⟨by simp [e1], by simp [e2], e3⟩
   ·intro hc
    have hc' : ls c = true := by simpa [hcne _ hk rfl] using hc
    obtain ⟨S, e1, e2, e3⟩ := F.main hc'
    rw [hupc _ _ hk rfl]
    refine ⟨S, hloc S _ w' _ e1 hb.size (fun g _ h => hb.block g h), fun g hg => Nat.lt_of_lt_of_le (e2 g hg) hb.size, fun j t z g hj hjk hjv => ?_⟩
    by_cases e : j = i
    ·subst e
     rw [upd_at] at hjv
     injection hjv with hjv; injection hjv with hjv; injection hjv with hjv
     intro hg
     have := e2 g hg; omega
    ·rw [upd_ne e] at hjv; exact e3 j t z g (by simpa [e] using hj) hjk hjv
   ·intro j t' z' hj hjk
    by_cases e : j = i
    ·subst e
     rw [hk] at hjk
     injection hjk with h1 h2
     subst h1; subst h2
     refine ⟨w'.heap.size, z, by rw [upd_at], F.below.size, Blk.new _ _ _, rfl, fun q f hq hlq => ?_⟩
     have e' : q ≠ j := fun e' => by subst e'; rw [hk] at hq; cases hq
     have := (F.put q j f (by simpa [e'] using hlq) hq).2.1
     rw [this] at ni; cases ni
    ·obtain ⟨g, C, e1, e2, e3, e4, e5⟩ := F.box j t' z' (by simpa [e] using hj) hjk
     refine ⟨g, C, by rw [upd_ne e]; exact e1, e2, (hb.block g e3.lt).trans e3, e4, fun q f hq hlq => ?_⟩
     rw [hupc _ _ hk rfl]
     have e' : q ≠ i := fun e' => by subst e'; rw [hk] at hq; cases hq
     exact e5 q f hq (by simpa [e'] using hlq)
   ·intro p q t1 z1 t2 z2 hp hq hpq hpk hqk
    by_cases e1 : p = i
    ·have e2 : q ≠ i := fun e => hpq (e1.trans e.symm)
     subst e1
     rw [upd_at, upd_ne e2]
     exact fun e => hnew q _ _ (by simpa [e2] using hq) hqk e.symm
    ·by_cases e2 : q = i
     ·subst e2
      rw [upd_at, upd_ne e1]
      exact hnew p _ _ (by simpa [e1] using hp) hpk
     ·rw [upd_ne e1, upd_ne e2]
      exact F.apart p q _ _ _ _ (by simpa [e1] using hp) (by simpa [e2] using hq) hpq hpk hqk
  | put b f =>
   rw [hk] at hs
   have h := hdeps.1.2
   rw [hk] at h
   simp only [Bool.and_eq_true, decide_eq_true_eq] at h
   obtain ⟨⟨⟨⟨hwb, hbb⟩, hbl⟩, hany⟩, huniq⟩ := h
   obtain ⟨t, z, hkb⟩ : ∃ t z, kdAt ks b = .box t z := by
    cases h : kdAt ks b <;> rw [h] at hbb <;> first | exact ⟨_, _, rfl⟩ | cases hbb
   obtain ⟨hlb, hev⟩ := hwt b hwb
   obtain ⟨g, C, e1, e2, e3, e4, e5⟩ := F.box b t z hlb hkb
   have hob : l[b]? = some l[b] := List.getElem?_eq_getElem hbl
   have hdb : ∃ k, l[b].dst = some k := by
    have h3 := hal b hbl
    simp only [Bool.and_eq_true] at h3
    have h4 := h3.2
    rw [hkb, hob] at h4
    simp at h4
    exact Option.isSome_iff_exists.1 h4
   obtain ⟨k, hdb⟩ := hdb
   have hevb : (putL L vs 0 l a).eval (.tmp (dstOf l b)) = .pointer (some ⟨g, 0, none⟩) := by
    rw [show dstOf l b = k by simp [dstOf, hob, hdb], hev _ k hob hdb, e1]
   have hlc : ls c = true := by
    obtain ⟨j, _, hj⟩ := List.any_eq_true.1 hany
    simp only [Bool.and_eq_true] at hj
    exact hres j hj.1 hj.2
   obtain ⟨S, p1, p2, p3⟩ := F.main hlc
   obtain ⟨w'', hrun, hsz, hblk, hfs, hoth, h1, h2, h3⟩ := hs S p1 t z g C hkb e3 e4 hevb
   have hdn : o.dst = none := by
    have h4 := hdeps.2
    rw [hk, ho] at h4
    simpa using h4
   unfold Oper.wp
   rw [hrun, Oper.upon_skip]
   have hbel : Below w.heap.size w w'' := ⟨h1.trans F.below.os, h2.trans F.below.tape, h3.trans F.below.output, by rw [hsz]; exact F.below.size, fun j hj => by rw [hoth j (by omega)]; exact F.below.block j hj⟩
   refine ⟨undef, rfl, hbel, hlt', ?_, ?_, ?_, ?_, ?_, ?_⟩
   ·intro j u hj hu
    rw [hupc _ _ hk rfl] at hu
    by_cases e : j = i
    ·subst e; rw [hk] at hu; cases hu
    ·rw [upd_ne e]; exact F.val j u (by simpa [e] using hj) hu
   ·intro j hj hjr
    simp [hlc]
   ·intro j b' f' hj hjk
    by_cases e : j = i
    ·subst e
     rw [hk] at hjk
     injection hjk with q1 q2
     subst q1
     exact ⟨by simp [hlc], by simp [hlb], by rw [upd_at]⟩
    ·obtain ⟨e1, e2, e3⟩ := F.put j b' f' (by simpa [e] using hj) hjk
     rw [upd_ne e]; exact ⟨by simp [e1], by simp [e2], e3⟩
   ·intro _
    rw [hupc _ _ hk rfl]
    refine ⟨S, hloc S _ w' w'' p1 (by omega) (fun g' hg' _ => hoth g' (fun e => p3 b t z g hlb hkb e1 (e ▸ hg'))), fun g' hg' => by have := p2 g' hg'; omega, fun j t' z' g' hj hjk hjv => ?_⟩
    have e : j ≠ i := fun e => by subst e; rw [hk] at hjk; cases hjk
    rw [upd_ne e] at hjv
    exact p3 j t' z' g' (by simpa [e] using hj) hjk hjv
   ·intro j t' z' hj hjk
    have e : j ≠ i := fun e => by subst e; rw [hk] at hjk; cases hjk
    have hlj : ls j = true := by simpa [e] using hj
    by_cases ejb : j = b
    ·subst ejb
     rw [hkb] at hjk
     injection hjk with q1 q2
     subst q1; subst q2
     refine ⟨g, f (vs c), by rw [upd_ne e]; exact e1, e2, hblk, hfs, fun q f' hq hlq => ?_⟩
     rw [hupc _ _ hk rfl]
     by_cases eq : q = i
     ·subst eq
      rw [hk] at hq
      injection hq with _ q2
      rw [q2]
     ·have hql : q < l.length := hlt' q hlq
      have h5 := List.all_eq_true.1 huniq q (List.mem_range.2 hql)
      simp [hq, Kd.to, Ne.symm eq] at h5
    ·obtain ⟨g', C', p1, p2, p3, p4, p5⟩ := F.box j t' z' hlj hjk
     have hne : g' ≠ g := fun e => F.apart j b t' z' t z hlj hlb ejb hjk hkb (by rw [p1, e1, e])
     refine ⟨g', C', by rw [upd_ne e]; exact p1, p2, (hoth g' hne).trans p3, p4, fun q f' hq hlq => ?_⟩
     rw [hupc _ _ hk rfl]
     by_cases eq : q = i
     ·subst eq
      rw [hk] at hq
      injection hq with q1 _
      exact absurd q1.symm ejb
     ·exact p5 q f' hq (by simpa [eq] using hlq)
   ·intro p q t1 z1 t2 z2 hp hq hpq hpk hqk
    have e1 : p ≠ i := fun e => by subst e; rw [hk] at hpk; cases hpk
    have e2 : q ≠ i := fun e => by subst e; rw [hk] at hqk; cases hqk
    rw [upd_ne e1, upd_ne e2]
    exact F.apart p q _ _ _ _ (by simpa [e1] using hp) (by simpa [e2] using hq) hpq hpk hqk
 ·intro L vs w' F hlst
  have hc := hlst c hcl
  obtain ⟨S, p1, p2, p3⟩ := F.main hc
  have hgs : ∃ gs : Nat → Nat, ∀ i t z, i < l.length → kdAt ks i = .box t z → vs i = .pointer (some ⟨gs i, 0, none⟩) := by
   refine ⟨fun i => match vs i with | .pointer (some ad) => ad.block | _ => 0, fun i t z hi hk => ?_⟩
   obtain ⟨g, C, e1, _⟩ := F.box i t z (hlst i hi) hk
   simp [e1]
  obtain ⟨gs, hgs⟩ := hgs
  rw [putL_all L vs (vs c) gs l 0 ks a hlen (fun i hi => by rw [Nat.zero_add]; exact hlst i hi) (fun i hi => ?_)]
  ·refine hend (vs c) gs S w' F.below p1 p2 (fun b t z hb hk => ?_) (fun b b' t z t' z' hb hb' hne hk hk' e => ?_)
   ·obtain ⟨g, C, e1, e2, e3, e4, e5⟩ := F.box b t z (hlst b hb) hk
    have e6 := hgs b t z hb hk
    rw [e6] at e1
    injection e1 with e1; injection e1 with e1; injection e1 with e1
    rw [e1]
    refine ⟨e2, ?_, C, e3, fun j f hj hjk => e5 j f hjk (hlst j hj)⟩
    rw [← e1]
    exact p3 b t z (gs b) (hlst b hb) hk e6
   ·exact F.apart b b' t z t' z' (hlst b hb) (hlst b' hb') hne hk hk' (by rw [hgs b t z hb hk, hgs b' t' z' hb' hk', e])
  ·rw [Nat.zero_add]
   cases hk : kdAt ks i with
   | box t z => exact hgs i t z hi hk
   | put b f => exact (F.put i b f (hlst i hi) hk).2.2
   | quiet v => exact F.val i _ (hlst i hi) (by rw [hk]; rfl)
   | qcall v => exact F.val i _ (hlst i hi) (by rw [hk]; rfl)
   | main => exact F.val i _ (hlst i hi) (by rw [hk]; rfl)
   | fin f => exact F.val i _ (hlst i hi) (by rw [hk]; rfl)
end
end Go.Proofs.YtnpaejknoipicagGreat
