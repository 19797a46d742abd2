/-
  Contracts: the sender's isNew, timeOf, turnTo.
-/
import Derived.Test.YtnpaejknoipicagGreatMgDeskSees7
import Derived.Test.YtnpaejknoipicagGreatMgDeskSees4
import Derived.Test.YtnpaejknoipicagGreatMgDeskSees5
import Derived.Deep.RegionHeld3
import Derived.BigQuiet

namespace Go.Proofs.YtnpaejknoipicagGreat
open Go.RowKit

set_option maxHeartbeats 2000000 in
set_option maxRecDepth 100000 in
theorem curCheck_any (m g f : Int) (w : World) :
    Calls Tryz.prog 109 #[.agg #[.int .i64 m, .int .i64 g, .int .i64 f]] w fun e w' => e = .returned (.int .i64 (curE m g f)) ∧ Below w.heap.size w w' := by
  obtain ⟨E, hE⟩ : ∃ E, E = curE m g f := ⟨_, rfl⟩
  have HE : Hid (E = if m < 1 then 6 else if 3 < m then 6 else if g < 0 then 3 else if 100006 < g then 3 else if f < 0 then 3 else if 6 < f then 3 else 0) := hE
  have HB : Hid (Below w.heap.size w (w.alloc (.cells #[.int .i64 m, .int .i64 g, .int .i64 f] 36))) := (Below.refl _ _).alloc (Nat.le_refl _) _
  rw [← hE]
  clear hE
  by_cases h1 : m < 1
  · have e : E = 6 := by rw [HE.out, if_pos h1]
    subst e
    go_enter Tryz.func109, Tryz.ntmps109
    go_wp2
    go_ret
    exact ⟨rfl, HB.out⟩
  by_cases h2 : 3 < m
  · have e : E = 6 := by rw [HE.out, if_neg h1, if_pos h2]
    subst e
    go_enter Tryz.func109, Tryz.ntmps109
    go_wp2
    go_ret
    exact ⟨rfl, HB.out⟩
  by_cases h3 : g < 0
  · have e : E = 3 := by rw [HE.out, if_neg h1, if_neg h2, if_pos h3]
    subst e
    go_enter Tryz.func109, Tryz.ntmps109
    go_wp2
    go_ret
    exact ⟨rfl, HB.out⟩
  by_cases h4 : 100006 < g
  · have e : E = 3 := by rw [HE.out, if_neg h1, if_neg h2, if_neg h3, if_pos h4]
    subst e
    go_enter Tryz.func109, Tryz.ntmps109
    go_wp2
    go_ret
    exact ⟨rfl, HB.out⟩
  by_cases h5 : f < 0
  · have e : E = 3 := by rw [HE.out, if_neg h1, if_neg h2, if_neg h3, if_neg h4, if_pos h5]
    subst e
    go_enter Tryz.func109, Tryz.ntmps109
    go_wp2
    go_ret
    exact ⟨rfl, HB.out⟩
  by_cases h6 : 6 < f
  · have e : E = 3 := by rw [HE.out, if_neg h1, if_neg h2, if_neg h3, if_neg h4, if_neg h5, if_pos h6]
    subst e
    go_enter Tryz.func109, Tryz.ntmps109
    go_wp2
    go_ret
    exact ⟨rfl, HB.out⟩
  · have e : E = 0 := by rw [HE.out, if_neg h1, if_neg h2, if_neg h3, if_neg h4, if_neg h5, if_neg h6]
    subst e
    go_enter Tryz.func109, Tryz.ntmps109
    go_wp2
    go_ret
    exact ⟨rfl, HB.out⟩

/-- what a beginning answers -/
def begM (first : Int) (L : List (List Fr)) (O : List Fr) (mode t : Int) : Int := if seekE first L O t = 0 then mode else 0

set_option maxHeartbeats 2000000 in
set_option maxRecDepth 100000 in
theorem begin_any (mode first : Int) (gv ov : Value) (L : List (List Fr)) (O : List Fr) (t : Int) (w : World) (hg : GrsIn (fun _ => True) w gv L) (ho : FrsIn (fun _ => True) w ov O) :
    Calls Tryz.prog 113 #[.int .i64 mode, .agg #[.int .i64 first, gv, ov], .int .i64 t] w fun e w' => e = .returned (.tuple #[.agg #[.int .i64 (begM first L O mode t), .int .i64 (seekN first L O t), .int .i64 0], .int .i64 (seekE first L O t)]) ∧ Below w.heap.size w w' := by
  obtain ⟨ga, gc, eg, _, _⟩ := hg.len
  obtain ⟨oa, oc, eo, _, _⟩ := ho.len
  obtain ⟨ln, hln⟩ : ∃ n, n = L.length := ⟨_, rfl⟩
  obtain ⟨lo, hlo⟩ : ∃ n, n = O.length := ⟨_, rfl⟩
  rw [← hln] at eg
  rw [← hlo] at eo
  obtain ⟨E, hE⟩ : ∃ E, E = seekE first L O t := ⟨_, rfl⟩
  obtain ⟨N, hN⟩ : ∃ E, E = seekN first L O t := ⟨_, rfl⟩
  obtain ⟨M, hM⟩ : ∃ E, E = begM first L O mode t := ⟨_, rfl⟩
  have HSK : Hid (∀ U : World, Below w.heap.size w U → Calls Tryz.prog 146 #[.agg #[.int .i64 first, gv, ov], .int .i64 t] U fun e w' => e = .returned (.tuple #[.int .i64 N, .int .i64 E]) ∧ Below U.heap.size U w') := fun U hU => by
    rw [hN, hE]; exact storeSeek_any first gv ov L O t U (hg.below hU) (ho.below hU)
  have HMM : Hid ((E = 0 → M = mode) ∧ (¬ E = 0 → M = 0 ∧ N = 0)) := by
    rw [hM, hE, hN]; unfold begM seekN
    exact ⟨fun h => if_pos h, fun h => ⟨if_neg h, if_neg h⟩⟩
  rw [← hE, ← hN, ← hM]
  clear hE hN hM hg ho hln hlo
  subst eg eo
  obtain ⟨W0, hW0⟩ : ∃ W0, W0 = (w.alloc (.cells #[.int .i64 first, .slice ga ln gc, .slice oa lo oc] 32)).alloc (.cells #[.int .i64 0, .int .i64 0, .int .i64 0] 36) := ⟨_, rfl⟩
  have HS0 : Hid (Stay W0 (fun U => Blk U (w.heap.size + 1) #[.int .i64 0, .int .i64 0, .int .i64 0] 36 ∧ Below w.heap.size w U)) := by
    have k2 := Blk.newE hW0
    simp only [World.size_alloc] at k2
    have hb : Below w.heap.size w W0 := by rw [hW0]; exact ((Below.refl _ _).alloc (Nat.le_refl _) _).alloc (by simp) _
    exact k2.stay.and (below_stay hb hb.size)
  go_enter Tryz.func113, Tryz.ntmps113
  go_wp2_with fail
  rw [← hW0]
  clear hW0
  refine (HSK.out _ HS0.out.now.2).mono ?_
  rintro e w1 ⟨rfl, b1⟩
  have HS1 := Stay.go HS0 b1
  clear b1 HS0 HSK
  have K := HS1.out.now.1
  obtain ⟨k0, k1, k2⟩ := K.three
  have fr := K.free
  have hl := K.lt
  obtain ⟨A, B, hA⟩ : ∃ A B : Int, (E = 0 → A = mode ∧ B = N) ∧ (¬ E = 0 → A = 0 ∧ B = 0) := by
    by_cases h : E = 0
    · exact ⟨mode, N, fun _ => ⟨rfl, rfl⟩, fun h' => absurd h h'⟩
    · exact ⟨0, 0, fun h' => absurd h' h, fun _ => ⟨rfl, rfl⟩⟩
  obtain ⟨W2, hW2⟩ : ∃ W2, W2 = ((w1.setCell ⟨w.heap.size + 1, 0, none⟩ (.int .i64 M)).setCell ⟨w.heap.size + 1, 1, none⟩ (.int .i64 N)).setCell ⟨w.heap.size + 1, 2, none⟩ (.int .i64 0) := ⟨_, rfl⟩
  have K2 : Hid (Blk W2 (w.heap.size + 1) #[.int .i64 M, .int .i64 N, .int .i64 0] 36) := by
    rw [hW2]; exact ((K.set 0 (.int .i64 M)).set 1 (.int .i64 N)).set 2 (.int .i64 0)
  have B2 : Hid (Below w.heap.size w W2) := by rw [hW2]; exact ((HS1.out.now.2.setCell (by simp) _).setCell (by simp) _).setCell (by simp) _
  clear hA K HS1
  by_cases h0 : E = 0
  · have hM := HMM.out.1 h0
    subst h0 hM
    go_wp2_with fail
    rw [← hW2]
    obtain ⟨u0, u1, u2⟩ := K2.out.three
    exact bodyPost_ret (v := .tuple #[.agg #[.int .i64 M, .int .i64 N, .int .i64 0], .int .i64 0]) (by simp [results, Tryz.results113, go_sem, u0, u1, u2]) rfl ⟨rfl, B2.out⟩
  · obtain ⟨hM, hN⟩ := HMM.out.2 h0
    subst hM hN
    go_wp2_with fail
    rw [← hW2]
    obtain ⟨u0, u1, u2⟩ := K2.out.three
    exact bodyPost_ret (v := .tuple #[.agg #[.int .i64 0, .int .i64 0, .int .i64 0], .int .i64 E]) (by simp [results, Tryz.results113, go_sem, u0, u1, u2]) rfl ⟨rfl, B2.out⟩

end Go.Proofs.YtnpaejknoipicagGreat

namespace Go.Proofs.YtnpaejknoipicagGreat
open Go.RowKit

set_option maxHeartbeats 2000000 in
set_option maxRecDepth 100000 in
theorem live_any (first : Int) (gv ov : Value) (L : List (List Fr)) (O : List Fr) (w : World) (hg : GrsIn (fun _ => True) w gv L) (ho : FrsIn (fun _ => True) w ov O) :
    Calls Tryz.prog 74 #[.agg #[.int .i64 first, gv, ov]] w fun e w' => e = .returned (.tuple #[.agg #[.int .i64 (begM first L O 1 1000000), .int .i64 (seekN first L O 1000000), .int .i64 0], .int .i64 (seekE first L O 1000000)]) ∧ Below w.heap.size w w' := by
  obtain ⟨ga, gc, eg, _, _⟩ := hg.len
  obtain ⟨oa, oc, eo, _, _⟩ := ho.len
  obtain ⟨ln, hln⟩ : ∃ n, n = L.length := ⟨_, rfl⟩
  obtain ⟨lo, hlo⟩ : ∃ n, n = O.length := ⟨_, rfl⟩
  rw [← hln] at eg
  rw [← hlo] at eo
  obtain ⟨E, hE⟩ : ∃ E, E = seekE first L O 1000000 := ⟨_, rfl⟩
  obtain ⟨N, hN⟩ : ∃ E, E = seekN first L O 1000000 := ⟨_, rfl⟩
  obtain ⟨M, hM⟩ : ∃ E, E = begM first L O 1 1000000 := ⟨_, rfl⟩
  have HSK : Hid (∀ U : World, Below w.heap.size w U → Calls Tryz.prog 113 #[.int .i64 1, .agg #[.int .i64 first, gv, ov], .int .i64 1000000] U fun e w' => e = .returned (.tuple #[.agg #[.int .i64 M, .int .i64 N, .int .i64 0], .int .i64 E]) ∧ Below U.heap.size U w') := fun U hU => by
    rw [hN, hE, hM]; exact begin_any 1 first gv ov L O 1000000 U (hg.below hU) (ho.below hU)
  rw [← hE, ← hN, ← hM]
  clear hE hN hM hg ho hln hlo
  subst eg eo
  obtain ⟨W0, hW0⟩ : ∃ W0, W0 = (w.alloc (.cells #[.int .i64 first, .slice ga ln gc, .slice oa lo oc] 32)).alloc (.cells #[.int .i64 0, .int .i64 0, .int .i64 0] 36) := ⟨_, rfl⟩
  have HS0 : Hid (Stay W0 (fun U => Blk U (w.heap.size + 1) #[.int .i64 0, .int .i64 0, .int .i64 0] 36 ∧ Below w.heap.size w U)) := by
    have k2 := Blk.newE hW0
    simp only [World.size_alloc] at k2
    have hb : Below w.heap.size w W0 := by rw [hW0]; exact ((Below.refl _ _).alloc (Nat.le_refl _) _).alloc (by simp) _
    exact k2.stay.and (below_stay hb hb.size)
  go_enter Tryz.func74, Tryz.ntmps74
  go_wp2_with fail
  rw [← hW0]
  clear hW0
  refine (HSK.out _ HS0.out.now.2).mono ?_
  rintro e w1 ⟨rfl, b1⟩
  have HS1 := Stay.go HS0 b1
  clear b1 HS0 HSK
  have K := HS1.out.now.1
  obtain ⟨k0, k1, k2⟩ := K.three
  have fr := K.free
  have hl := K.lt
  obtain ⟨W2, hW2⟩ : ∃ W2, W2 = ((w1.setCell ⟨w.heap.size + 1, 0, none⟩ (.int .i64 M)).setCell ⟨w.heap.size + 1, 1, none⟩ (.int .i64 N)).setCell ⟨w.heap.size + 1, 2, none⟩ (.int .i64 0) := ⟨_, rfl⟩
  have K2 : Hid (Blk W2 (w.heap.size + 1) #[.int .i64 M, .int .i64 N, .int .i64 0] 36) := by
    rw [hW2]; exact ((K.set 0 (.int .i64 M)).set 1 (.int .i64 N)).set 2 (.int .i64 0)
  have B2 : Hid (Below w.heap.size w W2) := by rw [hW2]; exact ((HS1.out.now.2.setCell (by simp) _).setCell (by simp) _).setCell (by simp) _
  clear K HS1
  go_wp2_with fail
  rw [← hW2]
  obtain ⟨u0, u1, u2⟩ := K2.out.three
  exact bodyPost_ret (v := .tuple #[.agg #[.int .i64 M, .int .i64 N, .int .i64 0], .int .i64 E]) (by simp [results, Tryz.results74, go_sem, u0, u1, u2]) rfl ⟨rfl, B2.out⟩

set_option maxHeartbeats 2000000 in
set_option maxRecDepth 100000 in
theorem curSeek_any (first : Int) (gv ov : Value) (L : List (List Fr)) (O : List Fr) (t : Int) (w : World) (hg : GrsIn (fun _ => True) w gv L) (ho : FrsIn (fun _ => True) w ov O) :
    Calls Tryz.prog 76 #[.agg #[.int .i64 first, gv, ov], .int .i64 t] w fun e w' => e = .returned (.tuple #[.agg #[.int .i64 (begM first L O 3 t), .int .i64 (seekN first L O t), .int .i64 0], .int .i64 (seekE first L O t)]) ∧ Below w.heap.size w w' := by
  obtain ⟨ga, gc, eg, _, _⟩ := hg.len
  obtain ⟨oa, oc, eo, _, _⟩ := ho.len
  obtain ⟨ln, hln⟩ : ∃ n, n = L.length := ⟨_, rfl⟩
  obtain ⟨lo, hlo⟩ : ∃ n, n = O.length := ⟨_, rfl⟩
  rw [← hln] at eg
  rw [← hlo] at eo
  obtain ⟨E, hE⟩ : ∃ E, E = seekE first L O t := ⟨_, rfl⟩
  obtain ⟨N, hN⟩ : ∃ E, E = seekN first L O t := ⟨_, rfl⟩
  obtain ⟨M, hM⟩ : ∃ E, E = begM first L O 3 t := ⟨_, rfl⟩
  have HSK : Hid (∀ U : World, Below w.heap.size w U → Calls Tryz.prog 113 #[.int .i64 3, .agg #[.int .i64 first, gv, ov], .int .i64 t] U fun e w' => e = .returned (.tuple #[.agg #[.int .i64 M, .int .i64 N, .int .i64 0], .int .i64 E]) ∧ Below U.heap.size U w') := fun U hU => by
    rw [hN, hE, hM]; exact begin_any 3 first gv ov L O t U (hg.below hU) (ho.below hU)
  rw [← hE, ← hN, ← hM]
  clear hE hN hM hg ho hln hlo
  subst eg eo
  obtain ⟨W0, hW0⟩ : ∃ W0, W0 = (w.alloc (.cells #[.int .i64 first, .slice ga ln gc, .slice oa lo oc] 32)).alloc (.cells #[.int .i64 0, .int .i64 0, .int .i64 0] 36) := ⟨_, rfl⟩
  have HS0 : Hid (Stay W0 (fun U => Blk U (w.heap.size + 1) #[.int .i64 0, .int .i64 0, .int .i64 0] 36 ∧ Below w.heap.size w U)) := by
    have k2 := Blk.newE hW0
    simp only [World.size_alloc] at k2
    have hb : Below w.heap.size w W0 := by rw [hW0]; exact ((Below.refl _ _).alloc (Nat.le_refl _) _).alloc (by simp) _
    exact k2.stay.and (below_stay hb hb.size)
  go_enter Tryz.func76, Tryz.ntmps76
  go_wp2_with fail
  rw [← hW0]
  clear hW0
  refine (HSK.out _ HS0.out.now.2).mono ?_
  rintro e w1 ⟨rfl, b1⟩
  have HS1 := Stay.go HS0 b1
  clear b1 HS0 HSK
  have K := HS1.out.now.1
  obtain ⟨k0, k1, k2⟩ := K.three
  have fr := K.free
  have hl := K.lt
  obtain ⟨W2, hW2⟩ : ∃ W2, W2 = ((w1.setCell ⟨w.heap.size + 1, 0, none⟩ (.int .i64 M)).setCell ⟨w.heap.size + 1, 1, none⟩ (.int .i64 N)).setCell ⟨w.heap.size + 1, 2, none⟩ (.int .i64 0) := ⟨_, rfl⟩
  have K2 : Hid (Blk W2 (w.heap.size + 1) #[.int .i64 M, .int .i64 N, .int .i64 0] 36) := by
    rw [hW2]; exact ((K.set 0 (.int .i64 M)).set 1 (.int .i64 N)).set 2 (.int .i64 0)
  have B2 : Hid (Below w.heap.size w W2) := by rw [hW2]; exact ((HS1.out.now.2.setCell (by simp) _).setCell (by simp) _).setCell (by simp) _
  clear K HS1
  go_wp2_with fail
  rw [← hW2]
  obtain ⟨u0, u1, u2⟩ := K2.out.three
  exact bodyPost_ret (v := .tuple #[.agg #[.int .i64 M, .int .i64 N, .int .i64 0], .int .i64 E]) (by simp [results, Tryz.results76, go_sem, u0, u1, u2]) rfl ⟨rfl, B2.out⟩

def pauN (m g f x : Int) : Int := if curE m g f = 0 then x else 0

set_option maxHeartbeats 2000000 in
set_option maxRecDepth 100000 in
theorem pause_any (m g f : Int) (w : World) :
    Calls Tryz.prog 79 #[.agg #[.int .i64 m, .int .i64 g, .int .i64 f]] w fun e w' => e = .returned (.tuple #[.agg #[.int .i64 (pauN m g f 2), .int .i64 (pauN m g f g), .int .i64 (pauN m g f f)], .int .i64 (curE m g f)]) ∧ Below w.heap.size w w' := by
  obtain ⟨E, hE⟩ : ∃ E, E = curE m g f := ⟨_, rfl⟩
  have HP : Hid (∀ x, pauN m g f x = if E = 0 then x else 0) := fun x => by rw [hE]; rfl
  have HC : Hid (∀ U : World, Calls Tryz.prog 109 #[.agg #[.int .i64 m, .int .i64 g, .int .i64 f]] U fun e w' => e = .returned (.int .i64 E) ∧ Below U.heap.size U w') := fun U => by rw [hE]; exact curCheck_any m g f U
  rw [← hE]
  clear hE
  obtain ⟨W0, hW0⟩ : ∃ W0, W0 = (w.alloc (.cells #[.int .i64 m, .int .i64 g, .int .i64 f] 36)).alloc (.cells #[.int .i64 0, .int .i64 0, .int .i64 0] 36) := ⟨_, rfl⟩
  have HS0 : Hid (Stay W0 (fun U => Blk U w.heap.size #[.int .i64 m, .int .i64 g, .int .i64 f] 36 ∧ Blk U (w.heap.size + 1) #[.int .i64 0, .int .i64 0, .int .i64 0] 36 ∧ Below w.heap.size w U)) := by
    have k2 := Blk.newE hW0
    simp only [World.size_alloc] at k2
    have hb : Below w.heap.size w W0 := by rw [hW0]; exact ((Below.refl _ _).alloc (Nat.le_refl _) _).alloc (by simp) _
    exact (show Blk W0 w.heap.size _ _ by rw [hW0]; exact (Blk.new _ _ _).alloc _).stay.and (k2.stay.and (below_stay hb hb.size))
  go_enter Tryz.func79, Tryz.ntmps79
  go_wp2_with fail
  rw [← hW0]
  clear hW0
  refine (HC.out _).mono ?_
  rintro e w1 ⟨rfl, b1⟩
  have HS1 := Stay.go HS0 b1
  clear b1 HS0 HC
  have K := HS1.out.now.1
  have J := HS1.out.now.2.1
  obtain ⟨k0, k1, k2⟩ := K.three
  obtain ⟨j0, j1, j2⟩ := J.three
  have fk := K.free
  have fj := J.free
  have hl := K.lt
  have hj := J.lt
  by_cases h0 : E = 0
  · obtain ⟨W2, hW2⟩ : ∃ W2, W2 = (((w1.setCell ⟨w.heap.size, 0, none⟩ (.int .i64 2)).setCell ⟨w.heap.size + 1, 0, none⟩ (.int .i64 2)).setCell ⟨w.heap.size + 1, 1, none⟩ (.int .i64 g)).setCell ⟨w.heap.size + 1, 2, none⟩ (.int .i64 f) := ⟨_, rfl⟩
    have K2 : Hid (Blk W2 (w.heap.size + 1) #[.int .i64 2, .int .i64 g, .int .i64 f] 36) := by
      rw [hW2]; exact (((J.other (a := ⟨w.heap.size, 0, none⟩) (by simp) (.int .i64 2)).set 0 (.int .i64 2)).set 1 (.int .i64 g)).set 2 (.int .i64 f)
    have B2 : Hid (Below w.heap.size w W2) := by rw [hW2]; exact (((HS1.out.now.2.2.setCell (by simp) _).setCell (by simp) _).setCell (by simp) _).setCell (by simp) _
    have HP2 : Hid (∀ x, pauN m g f x = x) := fun x => by rw [HP.out, if_pos h0]
    clear K J HS1 HP
    subst h0
    go_wp2_with fail
    rw [← hW2]
    obtain ⟨u0, u1, u2⟩ := K2.out.three
    rw [HP2.out, HP2.out, HP2.out]
    exact bodyPost_ret (v := .tuple #[.agg #[.int .i64 2, .int .i64 g, .int .i64 f], .int .i64 0]) (by simp [results, Tryz.results79, go_sem, u0, u1, u2]) rfl ⟨rfl, B2.out⟩
  · obtain ⟨W2, hW2⟩ : ∃ W2, W2 = ((w1.setCell ⟨w.heap.size + 1, 0, none⟩ (.int .i64 0)).setCell ⟨w.heap.size + 1, 1, none⟩ (.int .i64 0)).setCell ⟨w.heap.size + 1, 2, none⟩ (.int .i64 0) := ⟨_, rfl⟩
    have K2 : Hid (Blk W2 (w.heap.size + 1) #[.int .i64 0, .int .i64 0, .int .i64 0] 36) := by
      rw [hW2]; exact ((J.set 0 (.int .i64 0)).set 1 (.int .i64 0)).set 2 (.int .i64 0)
    have B2 : Hid (Below w.heap.size w W2) := by rw [hW2]; exact ((HS1.out.now.2.2.setCell (by simp) _).setCell (by simp) _).setCell (by simp) _
    have HP2 : Hid (∀ x, pauN m g f x = 0) := fun x => by rw [HP.out, if_neg h0]
    clear K J HS1 HP
    go_wp2_with fail
    rw [← hW2]
    obtain ⟨u0, u1, u2⟩ := K2.out.three
    rw [HP2.out, HP2.out, HP2.out]
    exact bodyPost_ret (v := .tuple #[.agg #[.int .i64 0, .int .i64 0, .int .i64 0], .int .i64 E]) (by simp [results, Tryz.results79, go_sem, u0, u1, u2]) rfl ⟨rfl, B2.out⟩

set_option maxHeartbeats 2000000 in
set_option maxRecDepth 100000 in
theorem checkNext_any (first : Int) (gv ov : Value) (L : List (List Fr)) (O : List Fr) (m g f upto : Int) (w : World) (hg : GrsIn (fun _ => True) w gv L) (ho : FrsIn (fun _ => True) w ov O) :
    Calls Tryz.prog 147 #[.agg #[.int .i64 first, gv, ov], .agg #[.int .i64 m, .int .i64 g, .int .i64 f], .int .i64 upto] w fun e w' => e = .returned (.int .i64 (nxE first L O m g f upto)) ∧ Below w.heap.size w w' := by
  obtain ⟨ga, gc, eg, _, _⟩ := hg.len
  obtain ⟨oa, oc, eo, _, _⟩ := ho.len
  obtain ⟨ln, hln⟩ : ∃ n, n = L.length := ⟨_, rfl⟩
  obtain ⟨lo, hlo⟩ : ∃ n, n = O.length := ⟨_, rfl⟩
  rw [← hln] at eg
  rw [← hlo] at eo
  obtain ⟨U, hU⟩ : ∃ E, E = stchk first L O := ⟨_, rfl⟩
  obtain ⟨E, hE⟩ : ∃ E, E = curE m g f := ⟨_, rfl⟩
  obtain ⟨R, hR⟩ : ∃ E, E = nxE first L O m g f upto := ⟨_, rfl⟩
  have HR : Hid (R = if U = 0 then (if E = 0 then (if upto < 0 then 3 else if 1000000 < upto then 3 else 0) else E) else U) := by show _ = _; rw [hR, hU, hE]; rfl
  have HC : Hid (∀ U : World, Calls Tryz.prog 109 #[.agg #[.int .i64 m, .int .i64 g, .int .i64 f]] U fun e w' => e = .returned (.int .i64 E) ∧ Below U.heap.size U w') := fun U => by rw [hE]; exact curCheck_any m g f U
  have HS : Hid (∀ W : World, Below w.heap.size w W → Calls Tryz.prog 103 #[.agg #[.int .i64 first, gv, ov]] W fun e w' => e = .returned (.int .i64 U) ∧ Below W.heap.size W w') := fun W hW => by
    rw [hU]; exact storeCheck_any _ first gv ov L O W (hg.below hW) (ho.below hW)
  rw [← hR]
  clear hU hE hR hg ho hln hlo
  subst eg eo
  obtain ⟨W0, hW0⟩ : ∃ W0, W0 = (w.alloc (.cells #[.int .i64 first, .slice ga ln gc, .slice oa lo oc] 32)).alloc (.cells #[.int .i64 m, .int .i64 g, .int .i64 f] 36) := ⟨_, rfl⟩
  have HS0 : Hid (Stay W0 (fun U => Blk U (w.heap.size + 1) #[.int .i64 m, .int .i64 g, .int .i64 f] 36 ∧ Below w.heap.size w U)) := by
    have k2 := Blk.newE hW0
    simp only [World.size_alloc] at k2
    have hb : Below w.heap.size w W0 := by rw [hW0]; exact ((Below.refl _ _).alloc (Nat.le_refl _) _).alloc (by simp) _
    exact k2.stay.and (below_stay hb hb.size)
  go_enter Tryz.func147, Tryz.ntmps147
  go_wp2_with fail
  rw [← hW0]
  clear hW0
  refine (HS.out _ HS0.out.now.2).mono ?_
  rintro e w1 ⟨rfl, b1⟩
  have HS1 := Stay.go HS0 b1
  clear b1 HS0 HS
  obtain ⟨k0, k1, k2⟩ := HS1.out.now.1.three
  by_cases h0 : U = 0
  case neg =>
    have hr : R = U := by rw [HR.out, if_neg h0]
    subst hr
    go_wp2_with fail
    go_ret
    exact ⟨rfl, HS1.out.now.2⟩
  have HR2 : Hid (R = if E = 0 then (if upto < 0 then 3 else if 1000000 < upto then 3 else 0) else E) := by show _ = _; rw [HR.out, if_pos h0]
  clear HR
  subst h0
  go_wp2_with fail
  refine (HC.out _).mono ?_
  rintro e w2 ⟨rfl, b2⟩
  have HS2 := Stay.go HS1 b2
  clear b2 HS1 HC k0 k1 k2
  by_cases h1 : E = 0
  case neg =>
    have hr : R = E := by rw [HR2.out, if_neg h1]
    subst hr
    go_wp2_with fail
    go_ret
    exact ⟨rfl, HS2.out.now.2⟩
  have HR3 : Hid (R = if upto < 0 then 3 else if 1000000 < upto then 3 else 0) := by show _ = _; rw [HR2.out, if_pos h1]
  clear HR2
  subst h1
  by_cases h2 : upto < 0
  · have hr : R = 3 := by rw [HR3.out, if_pos h2]
    subst hr
    go_wp2_with fail
    go_ret
    exact ⟨rfl, HS2.out.now.2⟩
  by_cases h3 : 1000000 < upto
  · have hr : R = 3 := by rw [HR3.out, if_neg h2, if_pos h3]
    subst hr
    go_wp2_with fail
    go_ret
    exact ⟨rfl, HS2.out.now.2⟩
  · have hr : R = 0 := by rw [HR3.out, if_neg h2, if_neg h3]
    subst hr
    go_wp2_with fail
    go_ret
    exact ⟨rfl, HS2.out.now.2⟩

end Go.Proofs.YtnpaejknoipicagGreat

namespace Go.Proofs.YtnpaejknoipicagGreat
open Go.RowKit

theorem Blk.sixw {w : World} {b : Nat} {x0 x1 x2 x3 x4 x5 : Value} {t : TypeId} (h : Blk w b #[x0, x1, x2, x3, x4, x5] t) :
    w.cell? ⟨b, 0, none⟩ = some x0 ∧ w.cell? ⟨b, 1, none⟩ = some x1 ∧ w.cell? ⟨b, 2, none⟩ = some x2 ∧ w.cell? ⟨b, 3, none⟩ = some x3 ∧ w.cell? ⟨b, 4, none⟩ = some x4 ∧ w.cell? ⟨b, 5, none⟩ = some x5 :=
  ⟨h.cell rfl, h.cell rfl, h.cell rfl, h.cell rfl, h.cell rfl, h.cell rfl⟩

set_option maxHeartbeats 2000000 in
set_option maxRecDepth 100000 in
theorem start_any (M : Nat) (m g f first : Int) (gv ov : Value) (L : List (List Fr)) (O : List Fr) (w : World) (hM : Blk w M #[.int .i64 m, .int .i64 g, .int .i64 f, .int .i64 first, gv, ov] 201) (hg : GrsIn (fun _ => True) w gv L) (ho : FrsIn (fun _ => True) w ov O) :
    Calls Tryz.prog 167 #[.pointer (some ⟨M, 0, none⟩)] w fun e w' => e = .returned (.int .i64 (plS first L O m)) ∧ Below w.heap.size w w' := by
  obtain ⟨ga, gc, eg, _, _⟩ := hg.len
  obtain ⟨oa, oc, eo, _, _⟩ := ho.len
  obtain ⟨ln, hln⟩ : ∃ n, n = L.length := ⟨_, rfl⟩
  obtain ⟨lo, hlo⟩ : ∃ n, n = O.length := ⟨_, rfl⟩
  rw [← hln] at eg
  rw [← hlo] at eo
  obtain ⟨R, hR⟩ : ∃ R, R = plS first L O m := ⟨_, rfl⟩
  obtain ⟨N, hN⟩ : ∃ N, N = seekN first L O 1000000 := ⟨_, rfl⟩
  obtain ⟨E, hE⟩ : ∃ N, N = seekE first L O 1000000 := ⟨_, rfl⟩
  obtain ⟨B, hB⟩ : ∃ N, N = begM first L O 1 1000000 := ⟨_, rfl⟩
  have HR : Hid ((m = 3 → R = first) ∧ (¬ m = 3 → R = N)) := by rw [hR, hN]; exact ⟨fun h => if_pos h, fun h => if_neg h⟩
  have HL : Hid (∀ U : World, Below w.heap.size w U → Calls Tryz.prog 74 #[.agg #[.int .i64 first, gv, ov]] U fun e w' => e = .returned (.tuple #[.agg #[.int .i64 B, .int .i64 N, .int .i64 0], .int .i64 E]) ∧ Below U.heap.size U w') := fun U hU => by
    rw [hN, hE, hB]; exact live_any first gv ov L O U (hg.below hU) (ho.below hU)
  rw [← hR]
  clear hR hN hE hB hg ho hln hlo
  subst eg eo
  obtain ⟨k0, k1, k2, k3, k4, k5⟩ := hM.sixw
  by_cases h3 : m = 3
  · have hr := HR.out.1 h3
    subst h3 hr
    go_enter Tryz.func167, Tryz.ntmps167
    go_wp2_with fail
    go_ret
    exact ⟨rfl, Below.refl _ _⟩
  · have hr := HR.out.2 h3
    subst hr
    go_enter Tryz.func167, Tryz.ntmps167
    go_wp2_with fail
    refine (HL.out _ (Below.refl _ _)).mono ?_
    rintro e w1 ⟨rfl, b1⟩
    have HB : Hid (Below w.heap.size w (w1.alloc (.cells #[.int .i64 B, .int .i64 R, .int .i64 0] 36))) := b1.alloc b1.size _
    clear b1
    go_wp2_with fail
    go_ret
    exact ⟨rfl, HB.out⟩

set_option maxHeartbeats 2000000 in
set_option maxRecDepth 100000 in
theorem mayHave_any (M : Nat) (m g f first : Int) (gv ov : Value) (t : Int) (k : Bool) (pv : Value) (upto : Int) (w : World) (hp : ∃ a n c, pv = .slice a n c) (hM : Blk w M #[.int .i64 m, .int .i64 g, .int .i64 f, .int .i64 first, gv, ov] 201) :
    Calls Tryz.prog 168 #[.pointer (some ⟨M, 0, none⟩), .agg #[.int .i64 t, .bool k, pv], .int .i64 upto] w fun e w' => e = .returned (.bool (mayB m t upto)) ∧ Below w.heap.size w w' := by
  obtain ⟨a, n, c, rfl⟩ := hp
  obtain ⟨k0, k1, k2, k3, k4, k5⟩ := hM.sixw
  have hl := hM.lt
  have HB : Hid (Below w.heap.size w (w.alloc (.cells #[.int .i64 t, .bool k, .slice a n c] 98))) := (Below.refl _ _).alloc (Nat.le_refl _) _
  obtain ⟨R, hR⟩ : ∃ R, R = mayB m t upto := ⟨_, rfl⟩
  have HR : Hid (R = (decide (m = 1) || (decide (m = 3) && decide (t ≤ upto)))) := hR
  rw [← hR]
  clear hR
  by_cases h1 : m = 1
  · have hr : R = true := by rw [HR.out]; simp [h1]
    subst hr h1
    go_enter Tryz.func168, Tryz.ntmps168
    go_wp2_with fail
    go_ret
    exact ⟨rfl, HB.out⟩
  by_cases h3 : m = 3
  · by_cases ht : t ≤ upto
    · have hr : R = true := by rw [HR.out]; simp [h3, ht]
      subst hr h3
      go_enter Tryz.func168, Tryz.ntmps168
      go_wp2_with fail
      go_ret
      exact ⟨by simp, HB.out⟩
    · have hr : R = false := by rw [HR.out]; simp [h3]; omega
      subst hr h3
      go_enter Tryz.func168, Tryz.ntmps168
      go_wp2_with fail
      go_ret
      exact ⟨by simp, HB.out⟩
  · have hr : R = false := by rw [HR.out]; simp [h1, h3]
    have e1 : (m == 1) = false := by simpa using h1
    have e3 : (m == 3) = false := by simpa using h3
    subst hr
    clear h1 h3 HR
    go_enter Tryz.func168, Tryz.ntmps168
    go_wp2_with fail
    go_ret
    exact ⟨rfl, HB.out⟩

end Go.Proofs.YtnpaejknoipicagGreat

namespace Go.Proofs.YtnpaejknoipicagGreat
open Go.RowKit

set_option maxHeartbeats 8000000 in
set_option maxRecDepth 100000 in
theorem findPlace_any (M : Nat) (m g f first : Int) (gv ov : Value) (L : List (List Fr)) (O : List Fr) (w : World) (hM : Blk w M #[.int .i64 m, .int .i64 g, .int .i64 f, .int .i64 first, gv, ov] 201) (hg : GrsIn (fun _ => True) w gv L) (ho : FrsIn (fun _ => True) w ov O) (hgb : g ≤ 1000000) (hgl : -1000000 ≤ g) :
    Calls Tryz.prog 148 #[.pointer (some ⟨M, 0, none⟩)] w fun e w' => e = .returned (.bool (plT first L O g f)) ∧ Blk w' M #[.int .i64 m, .int .i64 (plG first L O m g f), .int .i64 (plF first L O g f), .int .i64 first, gv, ov] 201 ∧ Kept [M] w w' := by
  obtain ⟨ga, gc, eg, _, _⟩ := hg.len
  obtain ⟨oa, oc, eo, _, _⟩ := ho.len
  obtain ⟨ln, hln⟩ : ∃ n, n = L.length := ⟨_, rfl⟩
  obtain ⟨lo, hlo⟩ : ∃ n, n = O.length := ⟨_, rfl⟩
  rw [← hln] at eg
  rw [← hlo] at eo
  obtain ⟨E, hE⟩ : ∃ E, E = getE first L O g := ⟨_, rfl⟩
  obtain ⟨X, hX⟩ : ∃ X, X = getG first L O g := ⟨_, rfl⟩
  obtain ⟨nX, hnX⟩ : ∃ n, n = X.length := ⟨_, rfl⟩
  obtain ⟨PS, hPS⟩ : ∃ n, n = plS first L O m := ⟨_, rfl⟩
  obtain ⟨PG, hPG⟩ : ∃ n, n = plG first L O m g f := ⟨_, rfl⟩
  obtain ⟨PF, hPF⟩ : ∃ n, n = plF first L O g f := ⟨_, rfl⟩
  obtain ⟨PT, hPT⟩ : ∃ n, n = plT first L O g f := ⟨_, rfl⟩
  have HGET : Hid (∀ U : World, Below w.heap.size w U → Calls Tryz.prog 166 #[.agg #[.int .i64 first, gv, ov], .int .i64 g] U fun e w' => ∃ a c, e = .returned (.tuple #[.agg #[.slice a nX c], .int .i64 E]) ∧ Hid (FrsIn (fun g => U.heap.size ≤ g) w' (.slice a nX c) X) ∧ Below U.heap.size U w') := fun U hU => by
    rw [hnX, hX, hE]; exact storeGet_new first gv ov L O g U (hg.below hU) (ho.below hU) (by omega)
  have HST : Hid (∀ U : World, Below w.heap.size w U → Blk U M #[.int .i64 m, .int .i64 g, .int .i64 f, .int .i64 first, gv, ov] 201 → Calls Tryz.prog 167 #[.pointer (some ⟨M, 0, none⟩)] U fun e w' => e = .returned (.int .i64 PS) ∧ Below U.heap.size U w') := fun U hU hk => by
    rw [hPS]; exact start_any M m g f first gv ov L O U hk (hg.below hU) (ho.below hU)
  have HYES : Hid ((¬ E = 0 ∨ (nX : Int) < f) → PT = true ∧ PG = PS ∧ PF = 0) := fun h => by
    have e : plT first L O g f = true := decide_eq_true (by rw [← hE, ← hX, ← hnX]; exact h)
    rw [hPT, hPG, hPF, hPS]; unfold plG plF; rw [e]; exact ⟨rfl, rfl, rfl⟩
  have HNO : Hid (E = 0 → f ≤ (nX : Int) → PT = false ∧ (f = nX → PG = g + 1 ∧ PF = 0) ∧ (¬ f = nX → PG = g ∧ PF = f)) := fun h1 h2 => by
    have e : plT first L O g f = false := decide_eq_false (by rw [← hE, ← hX, ← hnX]; omega)
    rw [hPT, hPG, hPF]; unfold plG plF; rw [e, ← hX, ← hnX]
    exact ⟨rfl, fun h => ⟨by rw [if_neg (by decide), if_pos h], by rw [if_neg (by decide), if_pos h]⟩, fun h => ⟨by rw [if_neg (by decide), if_neg h], by rw [if_neg (by decide), if_neg h]⟩⟩
  have HM : Hid (Blk w M #[.int .i64 m, .int .i64 g, .int .i64 f, .int .i64 first, gv, ov] 201) := hM
  rw [← hPT, ← hPG, ← hPF]
  clear hE hX hnX hPS hPG hPF hPT hg ho hln hlo hM
  subst eg eo
  have hMw := HM.out.lt
  go_enter Tryz.func148, Tryz.ntmps148
  go_wp2_with fail
  refine region_main (by kernel_rfl) (by kernel_rfl) [.quiet (.pointer (some ⟨M, 0, none⟩)), .quiet (.pointer (some ⟨M, 0, none⟩)), .quiet (.pointer (some ⟨M, 3, none⟩)), .quiet (.agg #[.int .i64 first, .slice ga ln gc, .slice oa lo oc]), .quiet (.pointer (some ⟨M, 0, none⟩)), .quiet (.pointer (some ⟨M, 0, none⟩)), .quiet (.pointer (some ⟨M, 0, none⟩)), .quiet (.pointer (some ⟨M, 1, none⟩)), .quiet (.int .i64 g), .main, .fin (fun r => r), .fin (exT 0), .fin (exT 1), .box 30 #[.slice none 0 0], .put 13 (fun r => aggC (exT 0 r)), .fin (exT 1)] 9 (by kernel_rfl)
    (fun S r w' => ∃ a1 c1, r = .tuple #[.agg #[.slice a1 nX c1], .int .i64 E] ∧ FrsIn S w' (.slice a1 nX c1) X) ?loc ?step ?fin
  case loc =>
    rintro S r w1 w3 ⟨a1, c1, rfl, h1⟩ hs hsame
    exact ⟨a1, c1, rfl, h1.to ⟨hs, fun g hg hS => hsame g hS hg⟩ (fun _ _ h => h)⟩
  case step =>
    intro i o ho a' w' r hb hfree hvals
    have f0 : a'.eval (.tmp 0) = .pointer (some ⟨M, 0, none⟩) := (hfree 0 (by kernel_rfl)).trans rfl
    obtain ⟨y0, y1, y2, y3, y4, y5⟩ := (HM.out.below hb HM.out.lt).sixw
    match i, ho with
    | 0, ho =>
      simp at ho; subst ho
      show (execOp a'.eval _).run _ w' = .ok (.value _) w'
      generalize a'.eval = ρ at *
      simp [execOp, go_sem, f0]
    | 1, ho =>
      simp at ho; subst ho
      have e6 : a'.eval (.tmp 6) = .pointer (some ⟨M, 0, none⟩) := hvals 0 _ (by kernel_rfl) rfl
      show (execOp a'.eval _).run _ w' = .ok (.value _) w'
      generalize a'.eval = ρ at *
      simp [execOp, go_sem, e6]
    | 2, ho =>
      simp at ho; subst ho
      have e7 : a'.eval (.tmp 7) = .pointer (some ⟨M, 0, none⟩) := hvals 1 _ (by kernel_rfl) rfl
      show (execOp a'.eval _).run _ w' = .ok (.value _) w'
      generalize a'.eval = ρ at *
      simp [execOp, go_sem, e7]
    | 3, ho =>
      simp at ho; subst ho
      have e8 : a'.eval (.tmp 8) = .pointer (some ⟨M, 3, none⟩) := hvals 2 _ (by kernel_rfl) rfl
      show (execOp a'.eval _).run _ w' = .ok (.value _) w'
      generalize a'.eval = ρ at *
      simp [execOp, go_sem, e8, y3, y4, y5]
    | 4, ho =>
      simp at ho; subst ho
      show (execOp a'.eval _).run _ w' = .ok (.value _) w'
      generalize a'.eval = ρ at *
      simp [execOp, go_sem, f0]
    | 5, ho =>
      simp at ho; subst ho
      have e10 : a'.eval (.tmp 10) = .pointer (some ⟨M, 0, none⟩) := hvals 4 _ (by kernel_rfl) rfl
      show (execOp a'.eval _).run _ w' = .ok (.value _) w'
      generalize a'.eval = ρ at *
      simp [execOp, go_sem, e10]
    | 6, ho =>
      simp at ho; subst ho
      have e11 : a'.eval (.tmp 11) = .pointer (some ⟨M, 0, none⟩) := hvals 5 _ (by kernel_rfl) rfl
      show (execOp a'.eval _).run _ w' = .ok (.value _) w'
      generalize a'.eval = ρ at *
      simp [execOp, go_sem, e11]
    | 7, ho =>
      simp at ho; subst ho
      have e12 : a'.eval (.tmp 12) = .pointer (some ⟨M, 0, none⟩) := hvals 6 _ (by kernel_rfl) rfl
      show (execOp a'.eval _).run _ w' = .ok (.value _) w'
      generalize a'.eval = ρ at *
      simp [execOp, go_sem, e12]
    | 8, ho =>
      simp at ho; subst ho
      have e13 : a'.eval (.tmp 13) = .pointer (some ⟨M, 1, none⟩) := hvals 7 _ (by kernel_rfl) rfl
      show (execOp a'.eval _).run _ w' = .ok (.value _) w'
      generalize a'.eval = ρ at *
      simp [execOp, go_sem, e13, y1]
    | 9, ho =>
      simp at ho; subst ho
      have e9 : a'.eval (.tmp 9) = .agg #[.int .i64 first, .slice ga ln gc, .slice oa lo oc] := hvals 3 _ (by kernel_rfl) rfl
      have e14 : a'.eval (.tmp 14) = .int .i64 g := hvals 8 _ (by kernel_rfl) rfl
      have ef : a'.eval (.func 166) = .func (.func 166) #[] #[] := rfl
      show ∃ f args, (execOp a'.eval _).run _ w' = .ok (.enter f args) w' ∧ _
      generalize a'.eval = ρ at *
      refine ⟨166, #[.agg #[.int .i64 first, .slice ga ln gc, .slice oa lo oc], .int .i64 g], by simp [execOp, go_sem, e9, e14, ef], ?_⟩
      refine (HGET.out w' hb).mono ?_
      rintro e w'' ⟨a1, c1, rfl, h1, hb4⟩
      exact ⟨_, rfl, ⟨a1, c1, rfl, h1.out.mono (fun g hl hg => ⟨hl, .inr hg⟩)⟩, hb4⟩
    | 10, ho =>
      simp at ho; subst ho
      have e15 : a'.eval (.tmp 15) = r := hvals 9 _ (by kernel_rfl) rfl
      show ∀ S, _ → (execOp a'.eval _).run _ w' = .ok (.value _) w'
      rintro S ⟨a1, c1, rfl, _⟩
      try simp only [exT] at e15
      generalize a'.eval = ρ at *
      simp [execOp, go_sem, e15]
    | 11, ho =>
      simp at ho; subst ho
      have e5 : a'.eval (.tmp 5) = r := hvals 10 _ (by kernel_rfl) rfl
      show ∀ S, _ → (execOp a'.eval _).run _ w' = .ok (.value _) w'
      rintro S ⟨a1, c1, rfl, _⟩
      try simp only [exT] at e5
      generalize a'.eval = ρ at *
      simp [execOp, go_sem, e5, exT]
    | 12, ho =>
      simp at ho; subst ho
      have e5 : a'.eval (.tmp 5) = r := hvals 10 _ (by kernel_rfl) rfl
      show ∀ S, _ → (execOp a'.eval _).run _ w' = .ok (.value _) w'
      rintro S ⟨a1, c1, rfl, _⟩
      try simp only [exT] at e5
      generalize a'.eval = ρ at *
      simp [execOp, go_sem, e5, exT]
    | 13, ho =>
      simp at ho; subst ho
      show (execOp a'.eval _).run _ w' = .ok (.value _) _
      generalize a'.eval = ρ at *
      simp [execOp, go_sem]
    | 14, ho =>
      simp at ho; subst ho
      have e16 : a'.eval (.tmp 16) = (exT 0) r := hvals 11 _ (by kernel_rfl) rfl
      show ∀ S, _ → ∀ t z g C, _ → _ → _ → _ → ∃ w'', (execOp a'.eval _).run _ w' = .ok .skip w'' ∧ _
      rintro S ⟨a1, c1, rfl, _⟩ t z g C hz hC hs (eb : a'.eval (.tmp 3) = _)
      cases hz
      obtain ⟨u0, q0⟩ := cells1 hC hs
      have p0 := hC.free 0
      obtain ⟨m1, m2, m3⟩ := set1 hC hs (.slice a1 nX c1)
      simp only [exT] at e16
      generalize a'.eval = ρ at *
      exact ⟨_, by simp [execOp, go_sem, e16, eb, q0, p0], m1, m2, rfl, m3, rfl, rfl, rfl⟩
    | 15, ho =>
      simp at ho; subst ho
      have e17 : a'.eval (.tmp 17) = (exT 1) r := hvals 12 _ (by kernel_rfl) rfl
      show ∀ S, _ → (execOp a'.eval _).run _ w' = .ok (.value _) w'
      rintro S ⟨a1, c1, rfl, _⟩
      try simp only [exT] at e17
      generalize a'.eval = ρ at *
      simp [execOp, go_sem, e17, exT]
    | i + 16, ho => simp at ho
  case fin =>
    rintro r gs S W hb ⟨a1, c1, rfl, h1⟩ hS hbox hap
    obtain ⟨p1, p2, C, p3, p4⟩ := hbox 13 _ _ (by decide) rfl
    have p5 := p4 14 _ (by decide) rfl
    subst p5
    have KP : Hid (Blk W (gs 13) #[.slice a1 nX c1] 30) := p3
    simp only [putK, Kd.out, exT, Act.put, List.setIfInBounds_toArray, List.set_cons_succ, List.set_cons_zero, List.getElem?_toArray, List.getElem?_cons_zero, List.getElem?_cons_succ, Option.getD_some]
    obtain ⟨p, hp⟩ : ∃ p, p = gs 13 := ⟨_, rfl⟩
    rw [← hp] at KP p1
    rw [← hp]
    have HBW : Hid (Below w.heap.size w W) := hb
    clear hp h1 hS hbox hap p2 p3 p4 hb
    have KM : Hid (Blk W M #[.int .i64 m, .int .i64 g, .int .i64 f, .int .i64 first, .slice ga ln gc, .slice oa lo oc] 201) := HM.out.below HBW.out hMw
    obtain ⟨y0, y1, y2, y3, y4, y5⟩ := KM.out.sixw
    have x0 := KP.out.one
    have KPW : Hid (Kept [M] w W) := ⟨HBW.out.os, HBW.out.tape, HBW.out.output, HBW.out.size, fun j hj _ => HBW.out.block j hj⟩
    have finish : ∀ (G F : Int) (w3 V : World), Below W.heap.size W w3 → V = (w3.setCell ⟨M, 1, none⟩ (.int .i64 G)).setCell ⟨M, 2, none⟩ (.int .i64 F) → Blk V M #[.int .i64 m, .int .i64 G, .int .i64 F, .int .i64 first, .slice ga ln gc, .slice oa lo oc] 201 ∧ Kept [M] w V := fun G F w3 V h3 hV => by
      have k := (KM.out.below h3 (by have := KM.out.lt; omega)).set 1 (.int .i64 G)
      have k' := k.set 2 (.int .i64 F)
      refine ⟨by rw [hV]; simpa using k', ?_⟩
      rw [hV]
      exact ((KPW.out.below h3).setCell (by simp) _).setCell (by simp) _
    have HFIN : Hid (∀ (G F : Int) (w3 V : World), Below W.heap.size W w3 → V = (w3.setCell ⟨M, 1, none⟩ (.int .i64 G)).setCell ⟨M, 2, none⟩ (.int .i64 F) → Blk V M #[.int .i64 m, .int .i64 G, .int .i64 F, .int .i64 first, .slice ga ln gc, .slice oa lo oc] 201 ∧ Kept [M] w V) := finish
    have hMW : M < W.heap.size := KM.out.lt
    clear finish
    have HD : Hid (∀ k, Below W.heap.size W (W.drewN k)) := fun k => below_drewN (Below.refl _ _) k
    have fd : ∀ k j, (W.drewN k).frozen? ⟨M, j, none⟩ = false := fun k j => (KM.out.drewN k).free j
    by_cases hE : E = 0
    · by_cases hf : (nX : Int) < f
      · obtain ⟨e1, e2, e3⟩ := HYES.out (.inr hf)
        have HPP : Hid (PT = true ∧ PG = PS ∧ PF = 0) := ⟨e1, e2, e3⟩
        clear e1 e2 e3 HYES HNO
        subst hE
        go_wp2_with fail
        go_quiet (fail)
        go_wp2_with fail
        have bd := HD.out nq
        refine (HST.out _ (HBW.out.trans (bd.mono HBW.out.size)) (KM.out.drewN nq)).mono ?_
        rintro e w3 ⟨rfl, b3⟩
        have b3' : Below W.heap.size W w3 := bd.trans (b3.mono bd.size)
        have k3 := KM.out.below b3' hMW
        obtain ⟨z0, z1, z2, z3, z4, z5⟩ := k3.sixw
        have f3 := k3.free
        have l3 := k3.lt
        obtain ⟨V, hV⟩ : ∃ V, V = (w3.setCell ⟨M, 1, none⟩ (.int .i64 PS)).setCell ⟨M, 2, none⟩ (.int .i64 0) := ⟨_, rfl⟩
        have HV : Hid (Blk V M #[.int .i64 m, .int .i64 PS, .int .i64 0, .int .i64 first, .slice ga ln gc, .slice oa lo oc] 201 ∧ Kept [M] w V) := HFIN.out _ _ _ _ b3' hV
        clear b3 b3' k3 bd
        go_wp2_with fail
        rw [← hV]
        obtain ⟨e1, e2, e3⟩ := HPP.out
        rw [e1, e2, e3]
        exact bodyPost_ret (v := .bool true) (by simp [results, Tryz.results148, go_sem]) rfl ⟨rfl, HV.out⟩
      · obtain ⟨e1, e2, e3⟩ := HNO.out hE (by omega)
        have HPT : Hid (PT = false) := e1
        by_cases hfe : f = nX
        · obtain ⟨e4, e5⟩ := e2 hfe
          have HPP : Hid (PG = g + 1 ∧ PF = 0) := ⟨e4, e5⟩
          clear e1 e2 e3 e4 e5 HYES HNO
          subst hE hfe
          go_wp2_with fail
          go_quiet (fail)
          go_wp2_with fail
          go_quiet (fail)
          go_wp2_with fail
          rw [HPT.out, HPP.out.1, HPP.out.2]
          exact bodyPost_ret (v := .bool false) (by simp [results, Tryz.results148, go_sem]) rfl ⟨rfl, HFIN.out _ _ _ _ (HD.out _) rfl⟩
        · obtain ⟨e4, e5⟩ := e3 hfe
          have HPP : Hid (PG = g ∧ PF = f) := ⟨e4, e5⟩
          have hfb : (f == (nX : Int)) = false := by simpa using hfe
          clear e1 e2 e3 e4 e5 HYES HNO
          subst hE
          go_wp2_with fail
          go_quiet (fail)
          go_wp2_with fail
          go_quiet (fail)
          go_wp2_with fail
          rw [HPT.out, HPP.out.1, HPP.out.2]
          exact bodyPost_ret (v := .bool false) (by simp [results, Tryz.results148, go_sem]) rfl ⟨rfl, (KM.out.drewN _).drewN _, KPW.out.below (below_drewN (HD.out _) _)⟩
    · obtain ⟨e1, e2, e3⟩ := HYES.out (.inl hE)
      have HPP : Hid (PT = true ∧ PG = PS ∧ PF = 0) := ⟨e1, e2, e3⟩
      have hEb : (E != 0) = true := by simpa using hE
      clear e1 e2 e3 HYES HNO
      go_wp2_with fail
      go_quiet (fail)
      go_wp2_with fail
      have bd := HD.out nq
      refine (HST.out _ (HBW.out.trans (bd.mono HBW.out.size)) (KM.out.drewN nq)).mono ?_
      rintro e w3 ⟨rfl, b3⟩
      have b3' : Below W.heap.size W w3 := bd.trans (b3.mono bd.size)
      have k3 := KM.out.below b3' hMW
      obtain ⟨z0, z1, z2, z3, z4, z5⟩ := k3.sixw
      have f3 := k3.free
      have l3 := k3.lt
      obtain ⟨V, hV⟩ : ∃ V, V = (w3.setCell ⟨M, 1, none⟩ (.int .i64 PS)).setCell ⟨M, 2, none⟩ (.int .i64 0) := ⟨_, rfl⟩
      have HV : Hid (Blk V M #[.int .i64 m, .int .i64 PS, .int .i64 0, .int .i64 first, .slice ga ln gc, .slice oa lo oc] 201 ∧ Kept [M] w V) := HFIN.out _ _ _ _ b3' hV
      clear b3 b3' k3 bd
      go_wp2_with fail
      rw [← hV]
      obtain ⟨e1, e2, e3⟩ := HPP.out
      rw [e1, e2, e3]
      exact bodyPost_ret (v := .bool true) (by simp [results, Tryz.results148, go_sem]) rfl ⟨rfl, HV.out⟩

end Go.Proofs.YtnpaejknoipicagGreat

namespace Go.Proofs.YtnpaejknoipicagGreat
open Go.RowKit Go.Sort

theorem getG_len {first : Int} {L : List (List Fr)} {O : List Fr} {n : Int} (h : getE first L O n = 0) : (getG first L O n).length ≤ 6 := by
  have hg : getG first L O n = grAt (allG L O) (n - first).toNat := if_pos h
  unfold getE at h
  by_cases h1 : stchk first L O = 0
  · rw [if_pos h1] at h
    by_cases h2 : n < first
    · rw [if_pos h2] at h; cases h
    · rw [if_neg h2] at h
      by_cases h3 : ((allG L O).length : Int) ≤ n - first
      · rw [if_pos h3] at h; cases h
      · rw [hg]
        exact (gchk_first (allG_right h1 _ (grAt_mem (by omega)))).2.1
  · rw [if_neg h1] at h; exact absurd h h1

set_option maxHeartbeats 8000000 in
set_option maxRecDepth 100000 in
theorem step_any (M : Nat) (m g f first : Int) (gv ov : Value) (L : List (List Fr)) (O : List Fr) (upto : Int) (w : World) (hM : Blk w M #[.int .i64 m, .int .i64 g, .int .i64 f, .int .i64 first, gv, ov] 201) (hg : GrsIn (fun _ => True) w gv L) (ho : FrsIn (fun _ => True) w ov O) (hgb : g ≤ 1000000) (hgl : -1000000 ≤ g)
    (hin : getE first L O g = 0 → ∃ j : Nat, f = j ∧ j < (getG first L O g).length) :
    Calls Tryz.prog 149 #[.pointer (some ⟨M, 0, none⟩), .int .i64 upto] w fun e w' => ∃ (x : Fr) (pv : Value), e = .returned (.tuple #[.agg #[.int .i64 x.time, .bool x.key, pv], .bool (okB first L O m g f upto)]) ∧ x = (if okB first L O m g f upto then frAt (getG first L O g) f.toNat else Fr.zero) ∧ StrsIn (fun b => w.heap.size ≤ b) w' pv x.parts ∧ Blk w' M #[.int .i64 m, .int .i64 g, .int .i64 (if okB first L O m g f upto then f + 1 else f), .int .i64 first, gv, ov] 201 ∧ Kept [M] w w' := by
  obtain ⟨ga, gc, eg, _, _⟩ := hg.len
  obtain ⟨oa, oc, eo, _, _⟩ := ho.len
  obtain ⟨ln, hln⟩ : ∃ n, n = L.length := ⟨_, rfl⟩
  obtain ⟨lo, hlo⟩ : ∃ n, n = O.length := ⟨_, rfl⟩
  rw [← hln] at eg
  rw [← hlo] at eo
  obtain ⟨E, hE⟩ : ∃ E, E = getE first L O g := ⟨_, rfl⟩
  obtain ⟨X, hX⟩ : ∃ X, X = getG first L O g := ⟨_, rfl⟩
  obtain ⟨nX, hnX⟩ : ∃ n, n = X.length := ⟨_, rfl⟩
  obtain ⟨K, hK⟩ : ∃ n, n = okB first L O m g f upto := ⟨_, rfl⟩
  have HGET : Hid (∀ U : World, Below w.heap.size w U → Calls Tryz.prog 166 #[.agg #[.int .i64 first, gv, ov], .int .i64 g] U fun e w' => ∃ a c, e = .returned (.tuple #[.agg #[.slice a nX c], .int .i64 E]) ∧ Hid (FrsIn (fun g => U.heap.size ≤ g) w' (.slice a nX c) X) ∧ Below U.heap.size U w') := fun U hU => by
    rw [hnX, hX, hE]; exact storeGet_new first gv ov L O g U (hg.below hU) (ho.below hU) (by omega)
  have HIN : Hid (E = 0 → ∃ j : Nat, f = j ∧ j < nX ∧ K = mayB m (frAt X j).time upto) := fun h => by
    obtain ⟨j, h1, h2⟩ := hin (by rw [← hE]; exact h)
    refine ⟨j, h1, by rw [hnX, hX]; exact h2, ?_⟩
    rw [hK, hX]; unfold okB; rw [← hE, h, h1]; simp
  have HX6 : Hid (E = 0 → nX ≤ 6) := fun h => by
    rw [hE] at h
    rw [hnX, hX]; exact getG_len h
  have HBAD : Hid (¬ E = 0 → K = false) := fun h => by rw [hK]; unfold okB; rw [← hE]; simp [h]
  have HM : Hid (Blk w M #[.int .i64 m, .int .i64 g, .int .i64 f, .int .i64 first, gv, ov] 201) := hM
  have HNX : Hid (nX = X.length) := hnX
  rw [← hK, ← hX]
  clear hE hX hnX hK hg ho hln hlo hM hin
  subst eg eo
  have hMw := HM.out.lt
  go_enter Tryz.func149, Tryz.ntmps149
  go_wp2_with fail
  obtain ⟨w0, hw0⟩ : ∃ w0, w0 = w.alloc (.cells #[.int .i64 0, .bool false, .slice none 0 0] 98) := ⟨_, rfl⟩
  have B0 : Below w.heap.size w w0 := by rw [hw0]; exact (Below.refl _ _).alloc (Nat.le_refl _) _
  have HM0 : Hid (Blk w0 M #[.int .i64 m, .int .i64 g, .int .i64 f, .int .i64 first, .slice ga ln gc, .slice oa lo oc] 201) := HM.out.below B0 hMw
  have HR0 : Hid (Blk w0 w.heap.size #[.int .i64 0, .bool false, .slice none 0 0] 98) := Blk.newE hw0
  have z0 : w0.heap.size = w.heap.size + 1 := by rw [hw0]; simp
  have HGET0 : Hid (∀ U : World, Below w0.heap.size w0 U → Calls Tryz.prog 166 #[.agg #[.int .i64 first, .slice ga ln gc, .slice oa lo oc], .int .i64 g] U fun e w' => ∃ a c, e = .returned (.tuple #[.agg #[.slice a nX c], .int .i64 E]) ∧ Hid (FrsIn (fun g => U.heap.size ≤ g) w' (.slice a nX c) X) ∧ Below U.heap.size U w') := fun U hU => HGET.out U (B0.trans (hU.mono B0.size))
  have HB0 : Hid (Below w.heap.size w w0) := B0
  rw [← hw0]
  clear hw0 B0 HGET
  refine region_main (by kernel_rfl) (by kernel_rfl) [.quiet (.pointer (some ⟨M, 0, none⟩)), .quiet (.pointer (some ⟨M, 0, none⟩)), .quiet (.pointer (some ⟨M, 3, none⟩)), .quiet (.agg #[.int .i64 first, .slice ga ln gc, .slice oa lo oc]), .quiet (.pointer (some ⟨M, 0, none⟩)), .quiet (.pointer (some ⟨M, 0, none⟩)), .quiet (.pointer (some ⟨M, 0, none⟩)), .quiet (.pointer (some ⟨M, 1, none⟩)), .quiet (.int .i64 g), .main, .fin (fun r => r), .fin (exT 0), .fin (exT 1), .box 30 #[.slice none 0 0], .put 13 (fun r => aggC (exT 0 r)), .fin (exT 1)] 9 (by kernel_rfl)
    (fun S r w' => ∃ a1 c1, r = .tuple #[.agg #[.slice a1 nX c1], .int .i64 E] ∧ FrsIn (fun g => S g ∧ w0.heap.size ≤ g) w' (.slice a1 nX c1) X) ?loc ?step ?fin
  case loc =>
    rintro S r w1 w3 ⟨a1, c1, rfl, h1⟩ hs hsame
    exact ⟨a1, c1, rfl, h1.to ⟨hs, fun g hg hS => hsame g hS.1 hg⟩ (fun _ _ h => h)⟩
  case step =>
    intro i o ho a' w' r hb hfree hvals
    have f0 : a'.eval (.tmp 0) = .pointer (some ⟨M, 0, none⟩) := (hfree 0 (by kernel_rfl)).trans rfl
    obtain ⟨y0, y1, y2, y3, y4, y5⟩ := (HM0.out.below hb HM0.out.lt).sixw
    match i, ho with
    | 0, ho =>
      simp at ho; subst ho
      show (execOp a'.eval _).run _ w' = .ok (.value _) w'
      generalize a'.eval = ρ at *
      simp [execOp, go_sem, f0]
    | 1, ho =>
      simp at ho; subst ho
      have e10 : a'.eval (.tmp 10) = .pointer (some ⟨M, 0, none⟩) := hvals 0 _ (by kernel_rfl) rfl
      show (execOp a'.eval _).run _ w' = .ok (.value _) w'
      generalize a'.eval = ρ at *
      simp [execOp, go_sem, e10]
    | 2, ho =>
      simp at ho; subst ho
      have e11 : a'.eval (.tmp 11) = .pointer (some ⟨M, 0, none⟩) := hvals 1 _ (by kernel_rfl) rfl
      show (execOp a'.eval _).run _ w' = .ok (.value _) w'
      generalize a'.eval = ρ at *
      simp [execOp, go_sem, e11]
    | 3, ho =>
      simp at ho; subst ho
      have e12 : a'.eval (.tmp 12) = .pointer (some ⟨M, 3, none⟩) := hvals 2 _ (by kernel_rfl) rfl
      show (execOp a'.eval _).run _ w' = .ok (.value _) w'
      generalize a'.eval = ρ at *
      simp [execOp, go_sem, e12, y3, y4, y5]
    | 4, ho =>
      simp at ho; subst ho
      show (execOp a'.eval _).run _ w' = .ok (.value _) w'
      generalize a'.eval = ρ at *
      simp [execOp, go_sem, f0]
    | 5, ho =>
      simp at ho; subst ho
      have e14 : a'.eval (.tmp 14) = .pointer (some ⟨M, 0, none⟩) := hvals 4 _ (by kernel_rfl) rfl
      show (execOp a'.eval _).run _ w' = .ok (.value _) w'
      generalize a'.eval = ρ at *
      simp [execOp, go_sem, e14]
    | 6, ho =>
      simp at ho; subst ho
      have e15 : a'.eval (.tmp 15) = .pointer (some ⟨M, 0, none⟩) := hvals 5 _ (by kernel_rfl) rfl
      show (execOp a'.eval _).run _ w' = .ok (.value _) w'
      generalize a'.eval = ρ at *
      simp [execOp, go_sem, e15]
    | 7, ho =>
      simp at ho; subst ho
      have e16 : a'.eval (.tmp 16) = .pointer (some ⟨M, 0, none⟩) := hvals 6 _ (by kernel_rfl) rfl
      show (execOp a'.eval _).run _ w' = .ok (.value _) w'
      generalize a'.eval = ρ at *
      simp [execOp, go_sem, e16]
    | 8, ho =>
      simp at ho; subst ho
      have e17 : a'.eval (.tmp 17) = .pointer (some ⟨M, 1, none⟩) := hvals 7 _ (by kernel_rfl) rfl
      show (execOp a'.eval _).run _ w' = .ok (.value _) w'
      generalize a'.eval = ρ at *
      simp [execOp, go_sem, e17, y1]
    | 9, ho =>
      simp at ho; subst ho
      have e13 : a'.eval (.tmp 13) = .agg #[.int .i64 first, .slice ga ln gc, .slice oa lo oc] := hvals 3 _ (by kernel_rfl) rfl
      have e18 : a'.eval (.tmp 18) = .int .i64 g := hvals 8 _ (by kernel_rfl) rfl
      have ef : a'.eval (.func 166) = .func (.func 166) #[] #[] := rfl
      show ∃ f args, (execOp a'.eval _).run _ w' = .ok (.enter f args) w' ∧ _
      generalize a'.eval = ρ at *
      refine ⟨166, #[.agg #[.int .i64 first, .slice ga ln gc, .slice oa lo oc], .int .i64 g], by simp [execOp, go_sem, e13, e18, ef], ?_⟩
      refine (HGET0.out w' hb).mono ?_
      rintro e w'' ⟨a1, c1, rfl, h1, hb4⟩
      exact ⟨_, rfl, ⟨a1, c1, rfl, h1.out.mono (fun g hl hg => ⟨⟨hl, .inr hg⟩, (by have := hb.size; omega)⟩)⟩, hb4⟩
    | 10, ho =>
      simp at ho; subst ho
      have e19 : a'.eval (.tmp 19) = r := hvals 9 _ (by kernel_rfl) rfl
      show ∀ S, _ → (execOp a'.eval _).run _ w' = .ok (.value _) w'
      rintro S ⟨a1, c1, rfl, _⟩
      try simp only [exT] at e19
      generalize a'.eval = ρ at *
      simp [execOp, go_sem, e19]
    | 11, ho =>
      simp at ho; subst ho
      have e9 : a'.eval (.tmp 9) = r := hvals 10 _ (by kernel_rfl) rfl
      show ∀ S, _ → (execOp a'.eval _).run _ w' = .ok (.value _) w'
      rintro S ⟨a1, c1, rfl, _⟩
      try simp only [exT] at e9
      generalize a'.eval = ρ at *
      simp [execOp, go_sem, e9, exT]
    | 12, ho =>
      simp at ho; subst ho
      have e9 : a'.eval (.tmp 9) = r := hvals 10 _ (by kernel_rfl) rfl
      show ∀ S, _ → (execOp a'.eval _).run _ w' = .ok (.value _) w'
      rintro S ⟨a1, c1, rfl, _⟩
      try simp only [exT] at e9
      generalize a'.eval = ρ at *
      simp [execOp, go_sem, e9, exT]
    | 13, ho =>
      simp at ho; subst ho
      show (execOp a'.eval _).run _ w' = .ok (.value _) _
      generalize a'.eval = ρ at *
      simp [execOp, go_sem]
    | 14, ho =>
      simp at ho; subst ho
      have e20 : a'.eval (.tmp 20) = (exT 0) r := hvals 11 _ (by kernel_rfl) rfl
      show ∀ S, _ → ∀ t z g C, _ → _ → _ → _ → ∃ w'', (execOp a'.eval _).run _ w' = .ok .skip w'' ∧ _
      rintro S ⟨a1, c1, rfl, _⟩ t z g C hz hC hs (eb : a'.eval (.tmp 6) = _)
      cases hz
      obtain ⟨u0, q0⟩ := cells1 hC hs
      have p0 := hC.free 0
      obtain ⟨m1, m2, m3⟩ := set1 hC hs (.slice a1 nX c1)
      simp only [exT] at e20
      generalize a'.eval = ρ at *
      exact ⟨_, by simp [execOp, go_sem, e20, eb, q0, p0], m1, m2, rfl, m3, rfl, rfl, rfl⟩
    | 15, ho =>
      simp at ho; subst ho
      have e21 : a'.eval (.tmp 21) = (exT 1) r := hvals 12 _ (by kernel_rfl) rfl
      show ∀ S, _ → (execOp a'.eval _).run _ w' = .ok (.value _) w'
      rintro S ⟨a1, c1, rfl, _⟩
      try simp only [exT] at e21
      generalize a'.eval = ρ at *
      simp [execOp, go_sem, e21, exT]
    | i + 16, ho => simp at ho
  case fin =>
    rintro r gs S W hb ⟨a1, c1, rfl, h1⟩ hS hbox hap
    obtain ⟨p1, p2, C, p3, p4⟩ := hbox 13 _ _ (by decide) rfl
    have p5 := p4 14 _ (by decide) rfl
    subst p5
    have KP : Hid (Blk W (gs 13) #[.slice a1 nX c1] 30) := p3
    simp only [putK, Kd.out, exT, Act.put, List.setIfInBounds_toArray, List.set_cons_succ, List.set_cons_zero, List.getElem?_toArray, List.getElem?_cons_zero, List.getElem?_cons_succ, Option.getD_some]
    obtain ⟨p, hp⟩ : ∃ p, p = gs 13 := ⟨_, rfl⟩
    rw [← hp] at KP p1
    rw [← hp]
    have HBW : Hid (Below w0.heap.size w0 W) := hb
    have H1 : Hid (FrsIn (fun b => S b ∧ w0.heap.size ≤ b) W (.slice a1 nX c1) X) := h1
    have HPS : Hid (¬ S p) := (by rw [hp]; exact p2)
    have HSW : Hid (∀ g, S g → g < W.heap.size) := hS
    clear hp h1 hS hbox hap p2 p3 p4 hb
    have KM : Hid (Blk W M #[.int .i64 m, .int .i64 g, .int .i64 f, .int .i64 first, .slice ga ln gc, .slice oa lo oc] 201) := HM0.out.below HBW.out HM0.out.lt
    have KR : Hid (Blk W w.heap.size #[.int .i64 0, .bool false, .slice none 0 0] 98) := HR0.out.below HBW.out HR0.out.lt
    have HBB : Hid (Below w.heap.size w W) := HB0.out.trans (HBW.out.mono HB0.out.size)
    have HKP : Hid (Kept [M] w W) := ⟨HBB.out.os, HBB.out.tape, HBB.out.output, HBB.out.size, fun j hj _ => HBB.out.block j hj⟩
    have hpw : w.heap.size + 1 ≤ p := by omega
    obtain ⟨y0, y1, y2, y3, y4, y5⟩ := KM.out.sixw
    obtain ⟨r0, r1, r2⟩ := KR.out.three
    have x0 := KP.out.one
    have fd : ∀ k j, (W.drewN k).frozen? ⟨w.heap.size, j, none⟩ = false := fun k j => (KR.out.drewN k).free j
    have HD : Hid (∀ k, Below W.heap.size W (W.drewN k)) := fun k => below_drewN (Below.refl _ _) k
    clear HGET0
    have HFIN : Hid (∀ (F : Int) (t : Int) (k : Bool) (pv : Value) (Y V : World), Kept [M] w Y → Blk Y M #[.int .i64 m, .int .i64 g, .int .i64 F, .int .i64 first, .slice ga ln gc, .slice oa lo oc] 201 → Blk Y w.heap.size #[.int .i64 0, .bool false, .slice none 0 0] 98 → V = ((Y.setCell ⟨w.heap.size, 0, none⟩ (.int .i64 t)).setCell ⟨w.heap.size, 1, none⟩ (.bool k)).setCell ⟨w.heap.size, 2, none⟩ pv → Blk V M #[.int .i64 m, .int .i64 g, .int .i64 F, .int .i64 first, .slice ga ln gc, .slice oa lo oc] 201 ∧ Blk V w.heap.size #[.int .i64 t, .bool k, pv] 98 ∧ Kept [M] w V ∧ V.heap.size = Y.heap.size ∧ ∀ b, b ≠ w.heap.size → V.heap[b]? = Y.heap[b]?) := fun F t k pv Y V h1 h2 h3 hV => by
      have ho : ∀ b, b ≠ w.heap.size → V.heap[b]? = Y.heap[b]? := fun b hb => by
        rw [hV, Below.heap_setCell _ _ _ _ (by exact hb), Below.heap_setCell _ _ _ _ (by exact hb), Below.heap_setCell _ _ _ _ (by exact hb)]
      refine ⟨(ho M (by omega)).trans h2, by rw [hV]; exact ((h3.set 0 (.int .i64 t)).set 1 (.bool k)).set 2 pv, ?_, by rw [hV]; simp, ho⟩
      rw [hV]; exact ((h1.setNew (Nat.le_refl _) _).setNew (Nat.le_refl _) _).setNew (Nat.le_refl _) _
    by_cases hE : E = 0
    · obtain ⟨j, hj, hjn, hKK⟩ := HIN.out hE
      obtain ⟨ao', c', eu, _, _, hc⟩ := H1.out
      rw [← HNX.out] at eu
      injection eu with eu eu2 eu3
      clear eu2
      subst eu eu3
      obtain ⟨b, off, e1, hb, hSb, pv, c0, c1', c2, hps⟩ := hc j (by rw [← HNX.out]; exact hjn)
      obtain ⟨x, hx⟩ : ∃ x, x = frAt X j := ⟨_, rfl⟩
      rw [show X[j]?.getD Fr.zero = x from hx.symm] at c0 c1' hps
      rw [← hx] at hKK
      obtain ⟨pa, pc, ep⟩ := hps.1.len
      obtain ⟨pn, hpn⟩ : ∃ n, n = x.parts.length := ⟨_, rfl⟩
      rw [← hpn] at ep
      have HXE : Hid (x = frAt X j) := hx
      have HPS2 : Hid (StrsIn (fun b => S b ∧ w0.heap.size ≤ b) W pv x.parts) := hps
      have HC0 : Hid (∀ U, Below W.heap.size W U → U.cell? ⟨b, off + j * 3, none⟩ = some (.int .i64 x.time) ∧ U.cell? ⟨b, off + j * 3 + 1, none⟩ = some (.bool x.key) ∧ U.cell? ⟨b, off + j * 3 + 2, none⟩ = some pv) := fun U h => ⟨(h.cell (p := ⟨b, off + j * 3, none⟩) hb).trans c0, (h.cell (p := ⟨b, off + j * 3 + 1, none⟩) hb).trans c1', (h.cell (p := ⟨b, off + j * 3 + 2, none⟩) hb).trans c2⟩
      have cF : ∀ d os, Calls Tryz.prog 168 #[.pointer (some ⟨M, 0, none⟩), .agg #[.int .i64 x.time, .bool x.key, pv], .int .i64 upto] (grow (redrawn W d) os) fun e w'' => e = .returned (.bool K) ∧ ∃ p : Regrown, w'' = grow (redrawn W p.d) p.os := fun d os =>
        Calls.regrown_of (by
          rw [hKK]
          exact mayHave_any M m g f first _ _ x.time x.key pv upto _ ⟨_, _, _, ep⟩ (KM.out.below (below_regrown W d os) KM.out.lt))
      have z0' := cell_regrown x0
      have z1' := cell_regrown y2
      have z2' := cell_regrown c0
      have z3' := cell_regrown c1'
      have z4' := cell_regrown c2
      have HSB : Hid (∀ b, (S b ∧ w0.heap.size ≤ b) → w.heap.size + 1 ≤ b ∧ b ≠ M) := fun b h => ⟨by omega, by omega⟩
      have hjb : j ≤ 6 := by have := HX6.out hE; omega
      have hji : (j : Int) < (nX : Int) := by omega
      clear hc hps hx hpn hKK HIN HBAD
      subst e1 ep hE hj
      clear c0 c1' c2 x0 y2
      go_wp2_with fail
      refine wp_region_quiet_below (by kernel_rfl) (by kernel_rfl) ?_
      repeat (quiet_step (exact cF _ _))
      refine wpQuiet_nil ?_
      intro _ hw'
      obtain ⟨⟨dq, osq⟩, hw''⟩ := hw'
      subst hw''
      have bR := below_regrown W dq osq
      obtain ⟨V, hV⟩ : ∃ V, V = grow (redrawn W dq) osq := ⟨_, rfl⟩
      rw [← hV] at bR
      rw [← hV]
      clear hV cF z0' z1' z2' z3' z4' y0 y1 y3 y4 y5 r0 r1 r2 fd
      have KMV := KM.out.below bR KM.out.lt
      have KRV := KR.out.below bR KR.out.lt
      have KPV := KP.out.below bR KP.out.lt
      have HPV : Hid (StrsIn (fun b => S b ∧ w0.heap.size ≤ b) V (.slice pa pn pc) x.parts) := HPS2.out.below bR
      have HKV : Hid (Kept [M] w V) := HKP.out.below bR
      have hpl := KP.out.lt
      have hML := KMV.lt
      have hRL := KRV.lt
      have hVW := bR.size
      have hpV : p < V.heap.size := by omega
      have hbV : b < V.heap.size := by omega
      obtain ⟨o0, o1, o2, o3, o4, o5⟩ := KMV.sixw
      obtain ⟨r0, r1, r2⟩ := KRV.three
      have x0 := KPV.one
      obtain ⟨c0, c1', c2⟩ := HC0.out V bR
      have fM := KMV.free
      have fR := KRV.free
      cases K
      · have HKM : Hid (Blk V M #[.int .i64 m, .int .i64 g, .int .i64 j, .int .i64 first, .slice ga ln gc, .slice oa lo oc] 201) := KMV
        have HKR : Hid (Blk V w.heap.size #[.int .i64 0, .bool false, .slice none 0 0] 98) := KRV
        clear KMV KRV KPV bR
        go_wp2_with fail
        obtain ⟨n1, n2, n3, _, _⟩ := HFIN.out j 0 false (.slice none 0 0) V _ HKV.out HKM.out HKR.out rfl
        obtain ⟨u0, u1, u2⟩ := n2.three
        exact bodyPost_ret (v := .tuple #[.agg #[.int .i64 0, .bool false, .slice none 0 0], .bool false]) (by simp [results, Tryz.results149, go_sem, u0, u1, u2]) rfl ⟨Fr.zero, .slice none 0 0, rfl, rfl, StrsIn.nil _ _, n1, n3⟩
      · have HKM : Hid (Blk V M #[.int .i64 m, .int .i64 g, .int .i64 j, .int .i64 first, .slice ga ln gc, .slice oa lo oc] 201) := KMV
        have HKR : Hid (Blk V w.heap.size #[.int .i64 0, .bool false, .slice none 0 0] 98) := KRV
        clear KMV KRV KPV
        go_wp2_with fail
        go_region
        obtain ⟨Y0, hY0⟩ : ∃ Y0, Y0 = (V.alloc (.cells #[.int .i64 x.time, .bool x.key, .slice pa pn pc] 98)).drew := ⟨_, rfl⟩
        have bY : Below V.heap.size V Y0 := by rw [hY0]; exact Below.drew ((Below.refl _ _).alloc (Nat.le_refl _) _)
        have KY : Blk Y0 V.heap.size #[.int .i64 x.time, .bool x.key, .slice pa pn pc] 98 := by rw [hY0]; exact (Blk.new _ _ _).drew
        rw [← hY0]
        clear hY0 o0 o1 o2 o3 o4 o5 r0 r1 r2 x0 c0 c1' c2 fM fR
        have M0 := HKM.out.below bY HKM.out.lt
        have R0 := HKR.out.below bY HKR.out.lt
        have P0 : Hid (StrsIn (fun b => S b ∧ w0.heap.size ≤ b) Y0 (.slice pa pn pc) x.parts) := HPV.out.below bY
        have Q0 : Hid (Kept [M] w Y0) := HKV.out.below bY
        obtain ⟨o0, o1, o2, o3, o4, o5⟩ := M0.sixw
        obtain ⟨r0, r1, r2⟩ := R0.three
        obtain ⟨q0, q1, q2⟩ := KY.three
        have fM := M0.free
        have fR := R0.free
        have lM := M0.lt
        have lR := R0.lt
        have lY := KY.lt
        have hne1 : ¬ M = V.heap.size := by omega
        have hne2 : ¬ V.heap.size = M := by omega
        have hne3 : ¬ w.heap.size = M := by omega
        have hne4 : ¬ M = w.heap.size := by omega
        have hne5 : ¬ V.heap.size = w.heap.size := by omega
        have hne6 : ¬ w.heap.size = V.heap.size := by omega
        obtain ⟨Y1, hY1⟩ : ∃ Y1, Y1 = Y0.setCell ⟨M, 2, none⟩ (.int .i64 (j + 1)) := ⟨_, rfl⟩
        have M1 : Blk Y1 M #[.int .i64 m, .int .i64 g, .int .i64 (j + 1), .int .i64 first, .slice ga ln gc, .slice oa lo oc] 201 := by
          have := M0.set 2 (.int .i64 (j + 1))
          rw [hY1]; simpa using this
        have R1 : Blk Y1 w.heap.size #[.int .i64 0, .bool false, .slice none 0 0] 98 := by rw [hY1]; exact R0.other (by simp; omega) _
        have Q1 : Kept [M] w Y1 := by rw [hY1]; exact Q0.out.setCell (by simp) _
        have hY1o : ∀ b, b ≠ M → Y1.heap[b]? = Y0.heap[b]? := fun b hb => by rw [hY1]; exact Below.heap_setCell _ _ _ _ hb
        have hY1s : Y1.heap.size = Y0.heap.size := by rw [hY1]; simp
        obtain ⟨Z, hZ⟩ : ∃ Z, Z = ((Y1.setCell ⟨w.heap.size, 0, none⟩ (.int .i64 x.time)).setCell ⟨w.heap.size, 1, none⟩ (.bool x.key)).setCell ⟨w.heap.size, 2, none⟩ (.slice pa pn pc) := ⟨_, rfl⟩
        obtain ⟨n1, n2, n3, n4, n5⟩ := HFIN.out (j + 1) x.time x.key (.slice pa pn pc) Y1 Z Q1 M1 R1 hZ
        have PZ : Hid (StrsIn (fun b => w.heap.size ≤ b) Z (.slice pa pn pc) x.parts) := P0.out.to ⟨by omega, fun b hb hS => by
          have hh := HSB.out b hS
          rw [n5 b (by omega), hY1o b (by omega)]⟩ (fun b _ hS => by have := HSB.out b hS; omega)
        have HN : Hid (Blk Z M #[.int .i64 m, .int .i64 g, .int .i64 (j + 1), .int .i64 first, .slice ga ln gc, .slice oa lo oc] 201 ∧ Blk Z w.heap.size #[.int .i64 x.time, .bool x.key, .slice pa pn pc] 98 ∧ Kept [M] w Z) := ⟨n1, n2, n3⟩
        rw [hY1] at hZ
        clear n1 n2 n3 n4 n5 M1 R1 Q1 hY1o hY1s M0 R0 KY bY hY1
        go_wp2_with fail
        rw [← hZ]
        obtain ⟨u0, u1, u2⟩ := HN.out.2.1.three
        exact bodyPost_ret (v := .tuple #[.agg #[.int .i64 x.time, .bool x.key, .slice pa pn pc], .bool true]) (by simp [results, Tryz.results149, go_sem, u0, u1, u2]) rfl ⟨x, .slice pa pn pc, rfl, HXE.out, PZ.out, HN.out.1, HN.out.2.2⟩
    · have hK := HBAD.out hE
      have hEb : (E != 0) = true := by simpa using hE
      subst hK
      go_wp2_with fail
      go_quiet (fail)
      go_wp2_with fail
      obtain ⟨n1, n2, n3, _, _⟩ := HFIN.out f 0 false (.slice none 0 0) (W.drewN nq) _ (HKP.out.below (HD.out nq)) (KM.out.drewN nq) (KR.out.drewN nq) rfl
      obtain ⟨u0, u1, u2⟩ := n2.three
      exact bodyPost_ret (v := .tuple #[.agg #[.int .i64 0, .bool false, .slice none 0 0], .bool false]) (by simp [results, Tryz.results149, go_sem, u0, u1, u2]) rfl ⟨Fr.zero, .slice none 0 0, rfl, rfl, StrsIn.nil _ _, n1, n3⟩

end Go.Proofs.YtnpaejknoipicagGreat

namespace Go.Proofs.YtnpaejknoipicagGreat
open Go.RowKit Go.Sort

def nxK (first : Int) (L : List (List Fr)) (O : List Fr) (m g f upto : Int) : Bool := decide (nxE first L O m g f upto = 0) && okB first L O m (plG first L O m g f) (plF first L O g f) upto
def nxM (first : Int) (L : List (List Fr)) (O : List Fr) (m g f upto : Int) : Int := if nxE first L O m g f upto = 0 then m else 0
def nxG (first : Int) (L : List (List Fr)) (O : List Fr) (m g f upto : Int) : Int := if nxE first L O m g f upto = 0 then (if nxK first L O m g f upto then plG first L O m g f else g) else 0
def nxF (first : Int) (L : List (List Fr)) (O : List Fr) (m g f upto : Int) : Int := if nxE first L O m g f upto = 0 then (if nxK first L O m g f upto then plF first L O g f + 1 else f) else 0
def nxX (first : Int) (L : List (List Fr)) (O : List Fr) (m g f upto : Int) : Fr := if nxK first L O m g f upto then frAt (getG first L O (plG first L O m g f)) (plF first L O g f).toNat else Fr.zero
def nxT (first : Int) (L : List (List Fr)) (O : List Fr) (m g f upto : Int) : Bool := nxK first L O m g f upto && plT first L O g f

theorem plG_bound {first : Int} {L : List (List Fr)} {O : List Fr} {m g f : Int} (hs : stchk first L O = 0) (hc : curE m g f = 0) : -1 ≤ plG first L O m g f ∧ plG first L O m g f ≤ 200000 := by
  obtain ⟨c1, c2, c3, c4, c5, c6⟩ := curE_zero.1 hc
  obtain ⟨q1, q2, q3, _⟩ := stchk_zero.1 hs
  have hl := allG_len L O q3
  have := seek_last hs
  unfold plG plS
  rw [this]
  repeat' split
  all_goals omega

set_option maxHeartbeats 8000000 in
set_option maxRecDepth 100000 in
theorem next_any (first : Int) (gv ov : Value) (L : List (List Fr)) (O : List Fr) (m g f upto : Int) (w : World) (hg : GrsIn (fun _ => True) w gv L) (ho : FrsIn (fun _ => True) w ov O) :
    Calls Tryz.prog 114 #[.agg #[.int .i64 first, gv, ov], .agg #[.int .i64 m, .int .i64 g, .int .i64 f], .int .i64 upto] w fun e w' => ∃ pv, e = .returned (.tuple #[.agg #[.int .i64 (nxM first L O m g f upto), .int .i64 (nxG first L O m g f upto), .int .i64 (nxF first L O m g f upto)], .agg #[.int .i64 (nxX first L O m g f upto).time, .bool (nxX first L O m g f upto).key, pv], .bool (nxK first L O m g f upto), .bool (nxT first L O m g f upto), .int .i64 (nxE first L O m g f upto)]) ∧ StrsIn (fun b => w.heap.size ≤ b) w' pv (nxX first L O m g f upto).parts ∧ Below w.heap.size w w' := by
  obtain ⟨ga, gc, eg, _, _⟩ := hg.len
  obtain ⟨oa, oc, eo, _, _⟩ := ho.len
  obtain ⟨ln, hln⟩ : ∃ n, n = L.length := ⟨_, rfl⟩
  obtain ⟨lo, hlo⟩ : ∃ n, n = O.length := ⟨_, rfl⟩
  rw [← hln] at eg
  rw [← hlo] at eo
  obtain ⟨E, hE⟩ : ∃ E, E = nxE first L O m g f upto := ⟨_, rfl⟩
  obtain ⟨PG, hPG⟩ : ∃ n, n = plG first L O m g f := ⟨_, rfl⟩
  obtain ⟨PF, hPF⟩ : ∃ n, n = plF first L O g f := ⟨_, rfl⟩
  obtain ⟨PT, hPT⟩ : ∃ n, n = plT first L O g f := ⟨_, rfl⟩
  obtain ⟨K, hK⟩ : ∃ n, n = okB first L O m PG PF upto := ⟨_, rfl⟩
  obtain ⟨rM, hrM⟩ : ∃ n, n = nxM first L O m g f upto := ⟨_, rfl⟩
  obtain ⟨rG, hrG⟩ : ∃ n, n = nxG first L O m g f upto := ⟨_, rfl⟩
  obtain ⟨rF, hrF⟩ : ∃ n, n = nxF first L O m g f upto := ⟨_, rfl⟩
  obtain ⟨rX, hrX⟩ : ∃ n, n = nxX first L O m g f upto := ⟨_, rfl⟩
  obtain ⟨rK, hrK⟩ : ∃ n, n = nxK first L O m g f upto := ⟨_, rfl⟩
  obtain ⟨rT, hrT⟩ : ∃ n, n = nxT first L O m g f upto := ⟨_, rfl⟩
  have hKK : rK = (decide (E = 0) && K) := by rw [hrK, hE, hK, hPG, hPF]; rfl
  have HBAD : Hid (¬ E = 0 → rM = 0 ∧ rG = 0 ∧ rF = 0 ∧ rX = Fr.zero ∧ rK = false ∧ rT = false) := fun h => by
    have k : nxK first L O m g f upto = false := by rw [← hrK, hKK, decide_eq_false h]; rfl
    rw [hE] at h
    refine ⟨by rw [hrM]; exact if_neg h, by rw [hrG]; exact if_neg h, by rw [hrF]; exact if_neg h, by rw [hrX]; unfold nxX; rw [k]; rfl, by rw [hrK, k], by rw [hrT]; unfold nxT; rw [k]; rfl⟩
  have HGOOD : Hid (E = 0 → rM = m ∧ (K = true → rG = PG ∧ rF = PF + 1 ∧ rX = frAt (getG first L O PG) PF.toNat ∧ rK = true ∧ rT = PT) ∧ (K = false → rG = g ∧ rF = f ∧ rX = Fr.zero ∧ rK = false ∧ rT = false)) := fun h => by
    have k : nxK first L O m g f upto = K := by rw [← hrK, hKK, decide_eq_true h]; rfl
    rw [hE] at h
    rw [hrM, hrG, hrF, hrX, hrK, hrT]
    unfold nxM nxG nxF nxX nxT
    rw [k, if_pos h, if_pos h, if_pos h, ← hPG, ← hPF, ← hPT]
    exact ⟨rfl, fun h => by rw [h]; exact ⟨rfl, rfl, rfl, rfl, rfl⟩, fun h => by rw [h]; exact ⟨rfl, rfl, rfl, rfl, rfl⟩⟩
  have HCK : Hid (∀ U : World, Below w.heap.size w U → Calls Tryz.prog 147 #[.agg #[.int .i64 first, gv, ov], .agg #[.int .i64 m, .int .i64 g, .int .i64 f], .int .i64 upto] U fun e w' => e = .returned (.int .i64 E) ∧ Below U.heap.size U w') := fun U hU => by
    rw [hE]; exact checkNext_any first gv ov L O m g f upto U (hg.below hU) (ho.below hU)
  have HFP : Hid (E = 0 → ∀ (M : Nat) (U : World), Below w.heap.size w U → Blk U M #[.int .i64 m, .int .i64 g, .int .i64 f, .int .i64 first, gv, ov] 201 → Calls Tryz.prog 148 #[.pointer (some ⟨M, 0, none⟩)] U fun e w' => e = .returned (.bool PT) ∧ Blk w' M #[.int .i64 m, .int .i64 PG, .int .i64 PF, .int .i64 first, gv, ov] 201 ∧ Kept [M] U w') := fun h M U hU hM => by
    obtain ⟨h1, h2, _⟩ := nxE_zero.1 (by rw [← hE]; exact h)
    obtain ⟨c1, c2, c3, c4, c5, c6⟩ := curE_zero.1 h2
    rw [hPT, hPG, hPF]; exact findPlace_any M m g f first gv ov L O U hM (hg.below hU) (ho.below hU) (by omega) (by omega)
  have HST : Hid (E = 0 → ∀ (M : Nat) (U : World), w.heap.size ≤ M → Below w.heap.size w U → Blk U M #[.int .i64 m, .int .i64 PG, .int .i64 PF, .int .i64 first, gv, ov] 201 → Calls Tryz.prog 149 #[.pointer (some ⟨M, 0, none⟩), .int .i64 upto] U fun e w' => ∃ (x : Fr) (pv : Value), e = .returned (.tuple #[.agg #[.int .i64 x.time, .bool x.key, pv], .bool K]) ∧ x = (if K then frAt (getG first L O PG) PF.toNat else Fr.zero) ∧ StrsIn (fun b => U.heap.size ≤ b) w' pv x.parts ∧ Blk w' M #[.int .i64 m, .int .i64 PG, .int .i64 (if K then PF + 1 else PF), .int .i64 first, gv, ov] 201 ∧ Kept [M] U w') := fun h M U _ hU hM => by
    obtain ⟨h1, h2, _⟩ := nxE_zero.1 (by rw [← hE]; exact h)
    obtain ⟨b1, b2⟩ := plG_bound h1 h2
    have hin := (next_spec upto h1 h2).1
    rw [← hPG] at b1 b2 hin
    rw [hK]
    refine step_any M m PG PF first gv ov L O upto U hM (hg.below hU) (ho.below hU) (by omega) (by omega) (fun he => ?_)
    obtain ⟨k, j, e1, e2, e3, e4⟩ := hin he
    rw [← hPF] at e3
    obtain ⟨_, u2⟩ := getE_in h1 e1 e2
    exact ⟨j, e3, by rw [u2]; exact e4⟩
  rw [← hE, ← hrM, ← hrG, ← hrF, ← hrX, ← hrK, ← hrT]
  have HGR : Hid (Stay w (fun U => GrsIn (fun _ => True) U gv L ∧ FrsIn (fun _ => True) U ov O)) := hg.stay.and ho.stay
  clear hE hPG hPF hPT hK hrM hrG hrF hrX hrK hrT hKK hg ho hln hlo
  subst eg eo
  go_enter Tryz.func114, Tryz.ntmps114
  go_wp2_with fail
  obtain ⟨W0, hW0⟩ : ∃ W0, W0 = (((w.alloc (.cells #[.int .i64 first, .slice ga ln gc, .slice oa lo oc] 32)).alloc (.cells #[.int .i64 m, .int .i64 g, .int .i64 f] 36)).alloc (.cells #[.int .i64 0, .int .i64 0, .int .i64 0] 36)).alloc (.cells #[.int .i64 0, .bool false, .slice none 0 0] 98) := ⟨_, rfl⟩
  have HS0 : Hid (Stay W0 (fun U => (Blk U w.heap.size #[.int .i64 first, .slice ga ln gc, .slice oa lo oc] 32 ∧ Blk U (w.heap.size + 1) #[.int .i64 m, .int .i64 g, .int .i64 f] 36) ∧ (Blk U (w.heap.size + 1 + 1) #[.int .i64 0, .int .i64 0, .int .i64 0] 36 ∧ Blk U (w.heap.size + 1 + 1 + 1) #[.int .i64 0, .bool false, .slice none 0 0] 98) ∧ Below w.heap.size w U)) := by
    have hb : Below w.heap.size w W0 := by rw [hW0]; exact ((((Below.refl _ _).alloc (Nat.le_refl _) _).alloc (by simp) _).alloc (by simp; omega) _).alloc (by simp; omega) _
    have k0 : Blk W0 w.heap.size #[.int .i64 first, .slice ga ln gc, .slice oa lo oc] 32 := by rw [hW0]; exact (((Blk.new _ _ _).alloc _).alloc _).alloc _
    have k1 : Blk W0 (w.heap.size + 1) #[.int .i64 m, .int .i64 g, .int .i64 f] 36 := by
      have := Blk.new (w.alloc (.cells #[.int .i64 first, .slice ga ln gc, .slice oa lo oc] 32)) #[.int .i64 m, .int .i64 g, .int .i64 f] 36
      simp only [World.size_alloc] at this
      rw [hW0]; exact (this.alloc _).alloc _
    have k2 : Blk W0 (w.heap.size + 1 + 1) #[.int .i64 0, .int .i64 0, .int .i64 0] 36 := by
      have := Blk.new ((w.alloc (.cells #[.int .i64 first, .slice ga ln gc, .slice oa lo oc] 32)).alloc (.cells #[.int .i64 m, .int .i64 g, .int .i64 f] 36)) #[.int .i64 0, .int .i64 0, .int .i64 0] 36
      simp only [World.size_alloc] at this
      rw [hW0]; exact this.alloc _
    have k3 : Blk W0 (w.heap.size + 1 + 1 + 1) #[.int .i64 0, .bool false, .slice none 0 0] 98 := by
      have := Blk.newE hW0
      simp only [World.size_alloc] at this
      exact this
    exact (k0.stay.and k1.stay).and ((k2.stay.and k3.stay).and (below_stay hb hb.size))
  rw [← hW0]
  clear hW0
  refine (HCK.out _ HS0.out.now.2.2).mono ?_
  rintro e w1 ⟨rfl, b1⟩
  have HS1 := Stay.go HS0 b1
  clear b1 HS0 HCK
  have hend : ∀ (Y V : World) (c0 c1 c2 : Int) (t : Int) (k : Bool) (pv : Value), Below w.heap.size w Y → Blk Y (w.heap.size + 1 + 1) #[.int .i64 0, .int .i64 0, .int .i64 0] 36 → Blk Y (w.heap.size + 1 + 1 + 1) #[.int .i64 0, .bool false, .slice none 0 0] 98 → V = (((((Y.setCell ⟨w.heap.size + 1 + 1, 0, none⟩ (.int .i64 c0)).setCell ⟨w.heap.size + 1 + 1, 1, none⟩ (.int .i64 c1)).setCell ⟨w.heap.size + 1 + 1, 2, none⟩ (.int .i64 c2)).setCell ⟨w.heap.size + 1 + 1 + 1, 0, none⟩ (.int .i64 t)).setCell ⟨w.heap.size + 1 + 1 + 1, 1, none⟩ (.bool k)).setCell ⟨w.heap.size + 1 + 1 + 1, 2, none⟩ pv → Blk V (w.heap.size + 1 + 1) #[.int .i64 c0, .int .i64 c1, .int .i64 c2] 36 ∧ Blk V (w.heap.size + 1 + 1 + 1) #[.int .i64 t, .bool k, pv] 98 ∧ Below w.heap.size w V ∧ V.heap.size = Y.heap.size ∧ ∀ b, b ≠ w.heap.size + 1 + 1 → b ≠ w.heap.size + 1 + 1 + 1 → V.heap[b]? = Y.heap[b]? := fun Y V c0 c1 c2 t k pv h1 h2 h3 hV => by
    refine ⟨?_, ?_, ?_, by rw [hV]; simp, fun b hb1 hb2 => ?_⟩
    · rw [hV]
      exact (((((h2.set 0 (.int .i64 c0)).set 1 (.int .i64 c1)).set 2 (.int .i64 c2)).other (by simp) _).other (by simp) _).other (by simp) _
    · rw [hV]
      exact (((((h3.other (by simp) _).other (by simp) _).other (by simp) _).set 0 (.int .i64 t)).set 1 (.bool k)).set 2 pv
    · rw [hV]
      exact (((((h1.setCell (by simp; omega) _).setCell (by simp; omega) _).setCell (by simp; omega) _).setCell (by simp; omega) _).setCell (by simp; omega) _).setCell (by simp; omega) _
    · rw [hV, Below.heap_setCell _ _ _ _ (by exact hb2), Below.heap_setCell _ _ _ _ (by exact hb2), Below.heap_setCell _ _ _ _ (by exact hb2), Below.heap_setCell _ _ _ _ (by exact hb1), Below.heap_setCell _ _ _ _ (by exact hb1), Below.heap_setCell _ _ _ _ (by exact hb1)]
  have HEND : Hid (∀ (Y V : World) (c0 c1 c2 : Int) (t : Int) (k : Bool) (pv : Value), Below w.heap.size w Y → Blk Y (w.heap.size + 1 + 1) #[.int .i64 0, .int .i64 0, .int .i64 0] 36 → Blk Y (w.heap.size + 1 + 1 + 1) #[.int .i64 0, .bool false, .slice none 0 0] 98 → V = (((((Y.setCell ⟨w.heap.size + 1 + 1, 0, none⟩ (.int .i64 c0)).setCell ⟨w.heap.size + 1 + 1, 1, none⟩ (.int .i64 c1)).setCell ⟨w.heap.size + 1 + 1, 2, none⟩ (.int .i64 c2)).setCell ⟨w.heap.size + 1 + 1 + 1, 0, none⟩ (.int .i64 t)).setCell ⟨w.heap.size + 1 + 1 + 1, 1, none⟩ (.bool k)).setCell ⟨w.heap.size + 1 + 1 + 1, 2, none⟩ pv → Blk V (w.heap.size + 1 + 1) #[.int .i64 c0, .int .i64 c1, .int .i64 c2] 36 ∧ Blk V (w.heap.size + 1 + 1 + 1) #[.int .i64 t, .bool k, pv] 98 ∧ Below w.heap.size w V ∧ V.heap.size = Y.heap.size ∧ ∀ b, b ≠ w.heap.size + 1 + 1 → b ≠ w.heap.size + 1 + 1 + 1 → V.heap[b]? = Y.heap[b]?) := hend
  clear hend
  by_cases hE : E = 0
  case neg =>
    have HZ : Hid (rM = 0 ∧ rG = 0 ∧ rF = 0 ∧ rX = Fr.zero ∧ rK = false ∧ rT = false) := HBAD.out hE
    have hEb : (E != 0) = true := by simpa using hE
    obtain ⟨j0, j1, j2⟩ := HS1.out.now.2.1.1.three
    obtain ⟨i0, i1, i2⟩ := HS1.out.now.2.1.2.three
    have fj := HS1.out.now.2.1.1.free
    have fi := HS1.out.now.2.1.2.free
    have lj := HS1.out.now.2.1.1.lt
    have li := HS1.out.now.2.1.2.lt
    obtain ⟨V, hV⟩ : ∃ V, V = (((((w1.setCell ⟨w.heap.size + 1 + 1, 0, none⟩ (.int .i64 0)).setCell ⟨w.heap.size + 1 + 1, 1, none⟩ (.int .i64 0)).setCell ⟨w.heap.size + 1 + 1, 2, none⟩ (.int .i64 0)).setCell ⟨w.heap.size + 1 + 1 + 1, 0, none⟩ (.int .i64 0)).setCell ⟨w.heap.size + 1 + 1 + 1, 1, none⟩ (.bool false)).setCell ⟨w.heap.size + 1 + 1 + 1, 2, none⟩ (.slice none 0 0) := ⟨_, rfl⟩
    have HV : Hid _ := HEND.out w1 V 0 0 0 0 false (.slice none 0 0) HS1.out.now.2.2 HS1.out.now.2.1.1 HS1.out.now.2.1.2 hV
    clear HFP HST HGOOD HBAD HEND
    go_wp2_with fail
    rw [← hV]
    obtain ⟨n1, n2, n3, _, _⟩ := HV.out
    obtain ⟨e1, e2, e3, e4, e5, e6⟩ := HZ.out
    rw [e1, e2, e3, e4, e5, e6]
    obtain ⟨u0, u1, u2⟩ := n1.three
    obtain ⟨v0, v1, v2⟩ := n2.three
    exact bodyPost_ret (v := .tuple #[.agg #[.int .i64 0, .int .i64 0, .int .i64 0], .agg #[.int .i64 0, .bool false, .slice none 0 0], .bool false, .bool false, .int .i64 E]) (by simp [results, Tryz.results114, go_sem, u0, u1, u2, v0, v1, v2]) rfl ⟨.slice none 0 0, rfl, StrsIn.nil _ _, n3⟩
  obtain ⟨gM, gY, gN⟩ := HGOOD.out hE
  have HFP2 := HFP.out hE
  have HST2 := HST.out hE
  have HFPH : Hid _ := HFP2
  have HSTH : Hid _ := HST2
  have HGM : Hid (rM = m) := gM
  have HGY : Hid (K = true → rG = PG ∧ rF = PF + 1 ∧ rX = frAt (getG first L O PG) PF.toNat ∧ rK = true ∧ rT = PT) := gY
  have HGN : Hid (K = false → rG = g ∧ rF = f ∧ rX = Fr.zero ∧ rK = false ∧ rT = false) := gN
  clear gM gY gN HFP2 HST2 HFP HST HGOOD HBAD
  obtain ⟨k0, k1, k2⟩ := HS1.out.now.1.1.three
  obtain ⟨j0, j1, j2⟩ := HS1.out.now.1.2.three
  subst hE
  obtain ⟨W1, hW1⟩ : ∃ W1, W1 = w1.alloc (.cells #[.int .i64 m, .int .i64 g, .int .i64 f, .int .i64 first, .slice ga ln gc, .slice oa lo oc] 201) := ⟨_, rfl⟩
  have HS2 := HS1.out.allocE hW1
  have KM1 : Hid (Blk W1 w1.heap.size #[.int .i64 m, .int .i64 g, .int .i64 f, .int .i64 first, .slice ga ln gc, .slice oa lo oc] 201) := Blk.newE hW1
  have lw1 : w.heap.size + 1 + 1 + 1 < w1.heap.size := HS1.out.now.2.1.2.lt
  clear HS1
  go_wp2_with fail
  rw [← hW1]
  clear hW1 k0 k1 k2 j0 j1 j2
  refine (HFPH.out _ _ HS2.out.now.2.2 KM1.out).mono ?_
  rintro e w2 ⟨rfl, km2, kp2⟩
  have lW1 : w1.heap.size < W1.heap.size := KM1.out.lt
  have b2 : Below w.heap.size w w2 := HS2.out.now.2.2.trans (kp2.toBelow (by omega) (fun k hk => by simp at hk; omega))
  have c2 := HS2.out.now.1.2.kept kp2 (by simp; omega)
  have p2 := HS2.out.now.2.1.1.kept kp2 (by simp; omega)
  have q2 := HS2.out.now.2.1.2.kept kp2 (by simp; omega)
  have KM2 : Hid (Blk w2 w1.heap.size #[.int .i64 m, .int .i64 PG, .int .i64 PF, .int .i64 first, .slice ga ln gc, .slice oa lo oc] 201) := km2
  have HB2 : Hid (Below w.heap.size w w2 ∧ Blk w2 (w.heap.size + 1) #[.int .i64 m, .int .i64 g, .int .i64 f] 36 ∧ Blk w2 (w.heap.size + 1 + 1) #[.int .i64 0, .int .i64 0, .int .i64 0] 36 ∧ Blk w2 (w.heap.size + 1 + 1 + 1) #[.int .i64 0, .bool false, .slice none 0 0] 98) := ⟨b2, c2, p2, q2⟩
  have lw2 : w1.heap.size < w2.heap.size := km2.lt
  clear b2 c2 p2 q2 km2 kp2 HS2 KM1 HFPH
  go_wp2_with fail
  refine (HSTH.out _ _ (by omega) HB2.out.1 KM2.out).mono ?_
  rintro e w3 ⟨x, pv, rfl, hx, hpv, km3, kp3⟩
  obtain ⟨pa, pc, ep⟩ := hpv.1.len
  obtain ⟨pn, hpn⟩ : ∃ n, n = x.parts.length := ⟨_, rfl⟩
  rw [← hpn] at ep
  clear hpn
  subst ep
  have sw3 := kp3.size
  have b3 : Below w.heap.size w w3 := HB2.out.1.trans (kp3.toBelow (by omega) (fun k hk => by simp at hk; omega))
  have c3 := HB2.out.2.1.kept kp3 (by simp; omega)
  have p3 := HB2.out.2.2.1.kept kp3 (by simp; omega)
  have q3 := HB2.out.2.2.2.kept kp3 (by simp; omega)
  obtain ⟨W3, hW3⟩ : ∃ W3, W3 = w3.alloc (.cells #[.int .i64 x.time, .bool x.key, .slice pa pn pc] 98) := ⟨_, rfl⟩
  have HS3 := ((below_stay b3 b3.size).and (c3.stay.and (p3.stay.and (q3.stay.and km3.stay)))).allocE hW3
  have HX3 := (((Blk.newE hW3).stay).and (hpv.allocE hW3).stay).hid
  have HX : Hid (x = if K then frAt (getG first L O PG) PF.toNat else Fr.zero) := hx
  have lw3 : w2.heap.size ≤ w3.heap.size := sw3
  clear b3 c3 p3 q3 km3 kp3 hpv hx HB2 KM2 HSTH
  cases K
  · obtain ⟨e1, e2, e3, e4, e5⟩ := HGN.out rfl
    have HZ : Hid (rM = m ∧ rG = g ∧ rF = f ∧ rX = Fr.zero ∧ rK = false ∧ rT = false) := ⟨HGM.out, e1, e2, e3, e4, e5⟩
    obtain ⟨k0, k1, k2⟩ := HS3.out.now.2.1.three
    obtain ⟨j0, j1, j2⟩ := HS3.out.now.2.2.1.three
    obtain ⟨i0, i1, i2⟩ := HS3.out.now.2.2.2.1.three
    have fj := HS3.out.now.2.2.1.free
    have fi := HS3.out.now.2.2.2.1.free
    have lj := HS3.out.now.2.2.1.lt
    have li := HS3.out.now.2.2.2.1.lt
    have lk := HS3.out.now.2.1.lt
    obtain ⟨V, hV⟩ : ∃ V, V = (((((W3.setCell ⟨w.heap.size + 1 + 1, 0, none⟩ (.int .i64 m)).setCell ⟨w.heap.size + 1 + 1, 1, none⟩ (.int .i64 g)).setCell ⟨w.heap.size + 1 + 1, 2, none⟩ (.int .i64 f)).setCell ⟨w.heap.size + 1 + 1 + 1, 0, none⟩ (.int .i64 0)).setCell ⟨w.heap.size + 1 + 1 + 1, 1, none⟩ (.bool false)).setCell ⟨w.heap.size + 1 + 1 + 1, 2, none⟩ (.slice none 0 0) := ⟨_, rfl⟩
    have HV : Hid _ := HEND.out W3 V m g f 0 false (.slice none 0 0) HS3.out.now.1 HS3.out.now.2.2.1 HS3.out.now.2.2.2.1 hV
    clear HGN HGY HGM e1 e2 e3 e4 e5 HEND
    subst hW3
    go_wp2_with fail
    rw [← hV]
    obtain ⟨n1, n2, n3, _, _⟩ := HV.out
    obtain ⟨e1, e2, e3, e4, e5, e6⟩ := HZ.out
    rw [e1, e2, e3, e4, e5, e6]
    obtain ⟨u0, u1, u2⟩ := n1.three
    obtain ⟨v0, v1, v2⟩ := n2.three
    exact bodyPost_ret (v := .tuple #[.agg #[.int .i64 m, .int .i64 g, .int .i64 f], .agg #[.int .i64 0, .bool false, .slice none 0 0], .bool false, .bool false, .int .i64 0]) (by simp [results, Tryz.results114, go_sem, u0, u1, u2, v0, v1, v2]) rfl ⟨.slice none 0 0, rfl, StrsIn.nil _ _, n3⟩
  · obtain ⟨e1, e2, e3, e4, e5⟩ := HGY.out rfl
    have hxx : x = frAt (getG first L O PG) PF.toNat := by rw [HX.out]; rfl
    have HZ : Hid (rM = m ∧ rG = PG ∧ rF = PF + 1 ∧ rX = x ∧ rK = true ∧ rT = PT) := ⟨HGM.out, e1, e2, by rw [e3, hxx], e4, e5⟩
    obtain ⟨k0, k1, k2, k3, k4, k5⟩ := HS3.out.now.2.2.2.2.sixw
    obtain ⟨j0, j1, j2⟩ := HS3.out.now.2.2.1.three
    obtain ⟨i0, i1, i2⟩ := HS3.out.now.2.2.2.1.three
    obtain ⟨x0, x1, x2⟩ := HX3.out.now.1.three
    have fj := HS3.out.now.2.2.1.free
    have fi := HS3.out.now.2.2.2.1.free
    have lj := HS3.out.now.2.2.1.lt
    have li := HS3.out.now.2.2.2.1.lt
    have lk := HS3.out.now.2.2.2.2.lt
    have lx := HX3.out.now.1.lt
    have hn1 : ¬ w1.heap.size = w.heap.size + 1 + 1 := by omega
    have hn2 : ¬ w1.heap.size = w.heap.size + 1 + 1 + 1 := by omega
    have hn3 : ¬ w3.heap.size = w.heap.size + 1 + 1 := by omega
    have hn4 : ¬ w3.heap.size = w.heap.size + 1 + 1 + 1 := by omega
    clear HGN HGY HGM e1 e2 e3 e4 e5 hxx HX
    obtain ⟨V, hV⟩ : ∃ V, V = (((((W3.setCell ⟨w.heap.size + 1 + 1, 0, none⟩ (.int .i64 m)).setCell ⟨w.heap.size + 1 + 1, 1, none⟩ (.int .i64 PG)).setCell ⟨w.heap.size + 1 + 1, 2, none⟩ (.int .i64 (PF + 1))).setCell ⟨w.heap.size + 1 + 1 + 1, 0, none⟩ (.int .i64 x.time)).setCell ⟨w.heap.size + 1 + 1 + 1, 1, none⟩ (.bool x.key)).setCell ⟨w.heap.size + 1 + 1 + 1, 2, none⟩ (.slice pa pn pc) := ⟨_, rfl⟩
    have HV : Hid _ := HEND.out W3 V m PG (PF + 1) x.time x.key (.slice pa pn pc) HS3.out.now.1 HS3.out.now.2.2.1 HS3.out.now.2.2.2.1 hV
    have HPZ : Hid (StrsIn (fun b => w.heap.size ≤ b) V (.slice pa pn pc) x.parts) := HX3.out.now.2.to ⟨by rw [HV.out.2.2.2.1]; exact Nat.le_refl _, fun b hb hS => HV.out.2.2.2.2 b (by omega) (by omega)⟩ (fun b _ hS => by omega)
    clear HEND
    subst hW3
    go_wp2_with fail
    go_region
    rw [← hV]
    clear hV x0 x1 x2 k0 k1 k2 k3 k4 k5 j0 j1 j2 i0 i1 i2
    go_wp2_with fail
    obtain ⟨n1, n2, n3, _, _⟩ := HV.out
    obtain ⟨e1, e2, e3, e4, e5, e6⟩ := HZ.out
    rw [e1, e2, e3, e4, e5, e6]
    obtain ⟨u0, u1, u2⟩ := n1.drew.three
    obtain ⟨v0, v1, v2⟩ := n2.drew.three
    exact bodyPost_ret (v := .tuple #[.agg #[.int .i64 m, .int .i64 PG, .int .i64 (PF + 1)], .agg #[.int .i64 x.time, .bool x.key, .slice pa pn pc], .bool true, .bool PT, .int .i64 0]) (by simp [results, Tryz.results114, go_sem, u0, u1, u2, v0, v1, v2]) rfl ⟨.slice pa pn pc, rfl, HPZ.out.below (Below.drew (Below.refl _ _)), Below.drew n3⟩

end Go.Proofs.YtnpaejknoipicagGreat

namespace Go.Proofs.YtnpaejknoipicagGreat

section
variable {first : Int} {L : List (List Fr)} {O : List Fr} {m g f upto : Int}

theorem nx_some (h : nxE first L O m g f upto = 0) {k j : Nat} {t : Bool} (hn : nxt m (allG L O) (g - first) f upto = some (k, j, t)) :
    nxM first L O m g f upto = m ∧ nxG first L O m g f upto = first + k ∧ nxF first L O m g f upto = j + 1 ∧ nxX first L O m g f upto = frAt (grAt (allG L O) k) j ∧ nxK first L O m g f upto = true ∧ nxT first L O m g f upto = t ∧ k < (allG L O).length ∧ j < (grAt (allG L O) k).length := by
  obtain ⟨h1, h2, h3, h4⟩ := nxE_zero.1 h
  obtain ⟨s0, s1, s2⟩ := next_spec upto h1 h2
  cases hk : okB first L O m (plG first L O m g f) (plF first L O g f) upto
  · rw [s2 hk] at hn; cases hn
  · obtain ⟨k', j', e1, e2, e3, e4, e5⟩ := s1 hk
    rw [e5] at hn
    injection hn with hn
    injection hn with a b
    injection b with b c
    subst a b
    have hK : nxK first L O m g f upto = true := by unfold nxK; rw [decide_eq_true h, hk]; rfl
    obtain ⟨g1, g2⟩ := getE_in h1 e1 e2
    refine ⟨if_pos h, by unfold nxG; rw [if_pos h, hK, if_pos rfl, e1], by unfold nxF; rw [if_pos h, hK, if_pos rfl, e3], ?_, hK, by unfold nxT; rw [hK, ← c]; rfl, e2, e4⟩
    unfold nxX; rw [hK, if_pos rfl, g2, e3]; rfl
theorem nx_bad (h : ¬ nxE first L O m g f upto = 0) : nxM first L O m g f upto = 0 ∧ nxG first L O m g f upto = 0 ∧ nxF first L O m g f upto = 0 ∧ nxX first L O m g f upto = Fr.zero ∧ nxK first L O m g f upto = false ∧ nxT first L O m g f upto = false := by
  have hK : nxK first L O m g f upto = false := by unfold nxK; rw [decide_eq_false h]; rfl
  refine ⟨if_neg h, if_neg h, if_neg h, by unfold nxX; rw [hK]; rfl, hK, by unfold nxT; rw [hK]; rfl⟩
theorem nx_none (h : nxE first L O m g f upto = 0) (hn : nxt m (allG L O) (g - first) f upto = none) : nxM first L O m g f upto = m ∧ nxG first L O m g f upto = g ∧ nxF first L O m g f upto = f ∧ nxX first L O m g f upto = Fr.zero ∧ nxK first L O m g f upto = false ∧ nxT first L O m g f upto = false := by
  obtain ⟨h1, h2, h3, h4⟩ := nxE_zero.1 h
  obtain ⟨s0, s1, s2⟩ := next_spec upto h1 h2
  have hk : okB first L O m (plG first L O m g f) (plF first L O g f) upto = false := by
    cases hk : okB first L O m (plG first L O m g f) (plF first L O g f) upto
    · rfl
    · obtain ⟨k', j', e1, e2, e3, e4, e5⟩ := s1 hk
      rw [e5] at hn; cases hn
  have hK : nxK first L O m g f upto = false := by unfold nxK; rw [hk]; simp
  refine ⟨if_pos h, by unfold nxG; rw [if_pos h, hK]; rfl, by unfold nxF; rw [if_pos h, hK]; rfl, by unfold nxX; rw [hK]; rfl, hK, by unfold nxT; rw [hK]; rfl⟩
end

/-- the frames from a place on -/
def restF (A : List (List Fr)) (k j : Nat) : List Fr := (grAt A k).drop j ++ (A.drop (k + 1)).flatten
theorem restF_in {A : List (List Fr)} {k j : Nat} (hj : j < (grAt A k).length) : restF A k j = frAt (grAt A k) j :: restF A k (j + 1) := by
  unfold restF
  rw [List.drop_eq_getElem_cons hj, List.cons_append]
  congr 1
  simp [frAt, List.getElem?_eq_getElem hj]
theorem restF_behind {A : List (List Fr)} {k : Nat} (hk : k + 1 < A.length) (h0 : 0 < (grAt A (k + 1)).length) : restF A k (grAt A k).length = frAt (grAt A (k + 1)) 0 :: restF A (k + 1) 1 := by
  have : restF A k (grAt A k).length = restF A (k + 1) 0 := by
    unfold restF
    rw [List.drop_length, List.nil_append, List.drop_eq_getElem_cons hk, List.flatten_cons, List.drop_zero]
    congr 1
    simp [grAt, List.getElem?_eq_getElem hk]
  rw [this, restF_in h0]
theorem flatten_len {A : List (List Fr)} (h : ∀ g ∈ A, g.length ≤ 6) : A.flatten.length ≤ A.length * 6 := by
  induction A with
  | nil => simp
  | cons g r ih =>
    have := ih fun x hx => h x (List.mem_cons_of_mem _ hx)
    have := h g List.mem_cons_self
    simp only [List.flatten_cons, List.length_append, List.length_cons]
    omega
end Go.Proofs.YtnpaejknoipicagGreat

namespace Go.Proofs.YtnpaejknoipicagGreat
open Go.RowKit

def outE (l t s : Int) : Int := if l < 0 then 3 else if 1000000000 < l then 3 else if t < 0 then 3 else if 1000000 < t then 3 else if s < -1000000 then 3 else if 1000000 < s then 3 else 0
theorem outE_zero {l t s : Int} : outE l t s = 0 ↔ 0 ≤ l ∧ l ≤ 1000000000 ∧ 0 ≤ t ∧ t ≤ 1000000 ∧ -1000000 ≤ s ∧ s ≤ 1000000 := by
  unfold outE
  repeat' split
  all_goals first | omega | (constructor <;> intro h <;> omega)

set_option maxHeartbeats 2000000 in
set_option maxRecDepth 100000 in
theorem outCheck_any (l t s : Int) (w : World) :
    Calls Tryz.prog 56 #[.agg #[.int .i64 l, .int .i64 t, .int .i64 s]] w fun e w' => e = .returned (.int .i64 (outE l t s)) ∧ Below w.heap.size w w' := by
  obtain ⟨E, hE⟩ : ∃ E, E = outE l t s := ⟨_, rfl⟩
  have HE : Hid (E = if l < 0 then 3 else if 1000000000 < l then 3 else if t < 0 then 3 else if 1000000 < t then 3 else if s < -1000000 then 3 else if 1000000 < s then 3 else 0) := hE
  have HB : Hid (Below w.heap.size w (w.alloc (.cells #[.int .i64 l, .int .i64 t, .int .i64 s] 38))) := (Below.refl _ _).alloc (Nat.le_refl _) _
  rw [← hE]
  clear hE
  by_cases h0 : l < 0
  · have e : E = 3 := by rw [HE.out, if_pos h0]
    subst e
    go_enter Tryz.func56, Tryz.ntmps56
    go_wp2
    go_ret
    exact ⟨rfl, HB.out⟩
  by_cases h1 : 1000000000 < l
  · have e : E = 3 := by rw [HE.out, if_neg h0, if_pos h1]
    subst e
    go_enter Tryz.func56, Tryz.ntmps56
    go_wp2
    go_ret
    exact ⟨rfl, HB.out⟩
  by_cases h2 : t < 0
  · have e : E = 3 := by rw [HE.out, if_neg h0, if_neg h1, if_pos h2]
    subst e
    go_enter Tryz.func56, Tryz.ntmps56
    go_wp2
    go_ret
    exact ⟨rfl, HB.out⟩
  by_cases h3 : 1000000 < t
  · have e : E = 3 := by rw [HE.out, if_neg h0, if_neg h1, if_neg h2, if_pos h3]
    subst e
    go_enter Tryz.func56, Tryz.ntmps56
    go_wp2
    go_ret
    exact ⟨rfl, HB.out⟩
  by_cases h4 : s < -1000000
  · have e : E = 3 := by rw [HE.out, if_neg h0, if_neg h1, if_neg h2, if_neg h3, if_pos h4]
    subst e
    go_enter Tryz.func56, Tryz.ntmps56
    go_wp2
    go_ret
    exact ⟨rfl, HB.out⟩
  by_cases h5 : 1000000 < s
  · have e : E = 3 := by rw [HE.out, if_neg h0, if_neg h1, if_neg h2, if_neg h3, if_neg h4, if_pos h5]
    subst e
    go_enter Tryz.func56, Tryz.ntmps56
    go_wp2
    go_ret
    exact ⟨rfl, HB.out⟩
  have e : E = 0 := by rw [HE.out, if_neg h0, if_neg h1, if_neg h2, if_neg h3, if_neg h4, if_neg h5]
  subst e
  go_enter Tryz.func56, Tryz.ntmps56
  go_wp2
  go_ret
  exact ⟨rfl, HB.out⟩

end Go.Proofs.YtnpaejknoipicagGreat

namespace Go.Proofs.YtnpaejknoipicagGreat
open Go.RowKit

set_option maxHeartbeats 2000000 in
set_option maxRecDepth 100000 in
theorem isNew_any (M : Nat) (l t s : Int) (w : World) (hM : Blk w M #[.int .i64 l, .int .i64 t, .int .i64 s] 150) :
    Calls Tryz.prog 95 #[.pointer (some ⟨M, 0, none⟩)] w fun e w' => e = .returned (.bool (l == 0)) ∧ w = w' := by
  obtain ⟨k0, k1, k2⟩ := hM.three
  go_enter Tryz.func95, Tryz.ntmps95
  go_wp2_with fail
  go_ret
  exact ⟨rfl, rfl⟩

set_option maxHeartbeats 2000000 in
set_option maxRecDepth 100000 in
theorem timeOf_any (M : Nat) (l t s ft : Int) (fk : Bool) (pa : Option Addr) (pn pc : Nat) (w : World) (hM : Blk w M #[.int .i64 l, .int .i64 t, .int .i64 s] 150) (hf0 : 0 ≤ ft) (hf1 : ft ≤ 1000000) (hs0 : -3000000 ≤ s) (hs1 : s ≤ 3000000) :
    Calls Tryz.prog 127 #[.pointer (some ⟨M, 0, none⟩), .agg #[.int .i64 ft, .bool fk, .slice pa pn pc]] w fun e w' => e = .returned (.int .i64 (ft + s)) ∧ Below w.heap.size w w' := by
  obtain ⟨k0, k1, k2⟩ := hM.three
  have lM := hM.lt
  have HB : Hid (Below w.heap.size w (w.alloc (.cells #[.int .i64 ft, .bool fk, .slice pa pn pc] 98))) := (Below.refl _ _).alloc (Nat.le_refl _) _
  go_enter Tryz.func127, Tryz.ntmps127
  go_wp2_with fail
  go_quiet (fail)
  go_wp2_with fail
  go_ret
  exact ⟨rfl, below_drewN HB.out _⟩

set_option maxHeartbeats 2000000 in
set_option maxRecDepth 100000 in
theorem turnTo_any (M : Nat) (l t s ft : Int) (fk : Bool) (pa : Option Addr) (pn pc : Nat) (w : World) (hM : Blk w M #[.int .i64 l, .int .i64 t, .int .i64 s] 150) (hf0 : 0 ≤ ft) (hf1 : ft ≤ 1000000) (ht0 : 0 ≤ t) (ht1 : t ≤ 1000000) :
    Calls Tryz.prog 96 #[.pointer (some ⟨M, 0, none⟩), .agg #[.int .i64 ft, .bool fk, .slice pa pn pc]] w fun e w' => e = .returned (.tuple #[]) ∧ Blk w' M #[.int .i64 l, .int .i64 t, .int .i64 (t + 10 - ft)] 150 ∧ Kept [M] w w' := by
  obtain ⟨k0, k1, k2⟩ := hM.three
  have lM := hM.lt
  have fM := hM.free
  have HV : Hid (Blk ((w.setCell ⟨M, 2, none⟩ (.int .i64 (t + 10 - ft))).alloc (.cells #[.int .i64 ft, .bool fk, .slice pa pn pc] 98)).drew M #[.int .i64 l, .int .i64 t, .int .i64 (t + 10 - ft)] 150 ∧ Kept [M] w ((w.setCell ⟨M, 2, none⟩ (.int .i64 (t + 10 - ft))).alloc (.cells #[.int .i64 ft, .bool fk, .slice pa pn pc] 98)).drew) :=
    ⟨Blk.drew (Blk.alloc (by have := hM.set 2 (.int .i64 (t + 10 - ft)); simpa using this) _), (((Kept.refl [M] w).setCell (by simp) _).alloc _).drew⟩
  clear hM
  go_enter Tryz.func96, Tryz.ntmps96
  go_wp2_with fail
  go_region
  go_wp2_with fail
  go_end0
  exact ⟨rfl, HV.out.1, HV.out.2⟩

end Go.Proofs.YtnpaejknoipicagGreat
