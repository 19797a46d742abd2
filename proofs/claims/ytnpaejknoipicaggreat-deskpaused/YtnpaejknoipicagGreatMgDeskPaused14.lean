/-
 Rows of acts, rows of errors; boxes of six and of seven cells (by program: reg/deskacts.py).
-/
import Derived.Test.YtnpaejknoipicagGreatMgDeskPaused13
import Derived.Test.YtnpaejknoipicagGreatDeskSend
import Derived.Test.YtnpaejknoipicagGreatMgDeskPaused12
import Derived.Test.YtnpaejknoipicagGreatMgDeskPaused11
namespace Go.Proofs.YtnpaejknoipicagGreat
open Go.RowKit
set_option maxHeartbeats 4000000 in
set_option maxRecDepth 100000 in
theorem doSeek_any (B C M : Nat) (kind n : Int) (x : ByteArray) (x0 x1 x2 x3 x4 x5 x6 x7 x8 x9 : Value) (first : Int) (gv ov x13 : Value) (L : List (List Fr)) (O : List Fr) (w : World) (hB : Blk w B #[.pointer (some ⟨M, 0, none⟩)] 119) (hC : Blk w C #[.int .i64 kind, .int .i64 n, .string x] 47) (hM : Blk w M #[x0, x1, x2, x3, x4, x5, x6, x7, x8, x9, .int .i64 first, gv, ov, x13] 77) (hg : GrsIn (fun _ => True) w gv L) (ho : FrsIn (fun _ => True) w ov O) :
  Calls Tryz.prog 75 #[.pointer (some ⟨B, 0, none⟩), .pointer (some ⟨C, 0, none⟩)] w fun e w' => e = .returned (.tuple #[.agg #[.int .i64 (begM first L O 3 n), .int .i64 (seekN first L O n), .int .i64 0], .int .i64 (seekE first L O n)]) ∧ Below w.heap.size w w' := by
 obtain ⟨ga, gc, eg, _, _⟩ := hg.len
 obtain ⟨oa, oc, eo, _, _⟩ := ho.len
 obtain ⟨ln, hln⟩ : ∃ n, n = L.length := ⟨_, rfl⟩
 obtain ⟨lo, hlo⟩ : ∃ n, n = O.length := ⟨_, rfl⟩
 rw [← hln] at eg
 rw [← hlo] at eo
 obtain ⟨m1, hm1⟩ : ∃ x, x = begM first L O 3 n := ⟨_, rfl⟩
 obtain ⟨g1, hg1⟩ : ∃ x, x = seekN first L O n := ⟨_, rfl⟩
 obtain ⟨E, hE⟩ : ∃ x, x = seekE first L O n := ⟨_, rfl⟩
 obtain ⟨P, hP⟩ : ∃ P, P = w.heap.size := ⟨_, rfl⟩
 have HL : Hid (∀ U, Below P w U → Calls Tryz.prog 76 #[.agg #[.int .i64 first, gv, ov], .int .i64 n] U fun e w' => e = .returned (.tuple #[.agg #[.int .i64 m1, .int .i64 g1, .int .i64 0], .int .i64 E]) ∧ Below U.heap.size U w') := fun U hU => by
  rw [hP] at hU
  rw [hm1, hg1, hE]; exact curSeek_any first gv ov L O n U (hg.below hU) (ho.below hU)
 rw [← hm1, ← hg1, ← hE]
 obtain ⟨V, hV⟩ : ∃ V, V = w.alloc (.cells #[.int .i64 0, .int .i64 0, .int .i64 0] 36) := ⟨_, rfl⟩
 have hbV : Below w.heap.size w V := by rw [hV]; exact (Below.refl _ _).alloc (Nat.le_refl _) _
 have HB : Hid (Below P w V) := by show Below P w V; rw [hP]; exact hbV
 have HX : Hid (Blk V P #[.int .i64 0, .int .i64 0, .int .i64 0] 36) := by rw [hP]; exact Blk.newE hV
 have b0 := (hB.below hbV hB.lt).cell (j := 0) (u := .pointer (some ⟨M, 0, none⟩)) rfl
 have c1 := (hC.below hbV hC.lt).cell (j := 1) (u := .int .i64 n) rfl
 have y10 := (hM.below hbV hM.lt).cell (j := 10) (u := .int .i64 first) rfl
 have y11 := (hM.below hbV hM.lt).cell (j := 11) (u := gv) rfl
 have y12 := (hM.below hbV hM.lt).cell (j := 12) (u := ov) rfl
 have hPV : P < V.heap.size := HX.out.lt
 rw [← hP]
 clear hB hC hM hg ho hln hlo hm1 hg1 hE hbV
 subst eg eo
 go_enter Tryz.func75, Tryz.ntmps75
 go_wp2_with fail
 rw [← hV, ← hP]
 clear hV hP
 go_region_with (go_at_call 76; refine (HL.out _ (HB.out.trans ((Below.refl _ V).drew.mono (Nat.le_of_lt hPV)))).mono ?_; rintro e w1 ⟨rfl, b1⟩; have k1 := (HX.out.drew).below b1 hPV; have z0 := k1.cell (j := 0) (u := .int .i64 0) rfl; have z1 := k1.cell (j := 1) (u := .int .i64 0) rfl; have z2 := k1.cell (j := 2) (u := .int .i64 0) rfl; have fX := k1.free; have lX := k1.lt)
 all_goals
  obtain ⟨W, hW⟩ : ∃ W, W = ((w1.setCell ⟨P, 0, none⟩ (.int .i64 m1)).setCell ⟨P, 1, none⟩ (.int .i64 g1)).setCell ⟨P, 2, none⟩ (.int .i64 0) := ⟨_, rfl⟩
  have HXW : Hid (Blk W P #[.int .i64 m1, .int .i64 g1, .int .i64 0] 36) := by rw [hW]; exact k1.put3 _ _ _
  have HBW : Hid (Below P w W) := by
   rw [hW]
   exact ((((HB.out.trans ((Below.refl _ V).drew.mono (Nat.le_of_lt hPV))).trans (b1.mono (Nat.le_of_lt hPV))).setCell (Nat.le_refl _) _).setCell (Nat.le_refl _) _).setCell (Nat.le_refl _) _
  clear HX k1 b1 HB HL b0 c1 y10 y11 y12 z0 z1 z2 fX lX
  go_wp2
  rw [← hW]
  clear hW
  obtain ⟨z0, z1, z2⟩ := HXW.out.three
  exact bodyPost_ret (v := .tuple #[.agg #[.int .i64 m1, .int .i64 g1, .int .i64 0], .int .i64 E]) (by simp [results, Tryz.results75, go_sem, z0, z1, z2]) rfl ⟨rfl, HBW.out⟩
def DkQ (S : Nat → Prop) (M base : Nat) (w' : World) (R : Tr × Vw × List Pk × Int) : Prop := ∃ hv' bv' gv' ov' va vc, Blk w' M (dkC R.2.1 R.1 hv' bv' gv' ov' (.slice va R.2.2.1.length vc)) 77 ∧ TrIn (fun g => S g ∧ g ≠ M) w' hv' bv' gv' ov' R.1 ∧ w'.ownsRow base 63 6 (.slice va R.2.2.1.length vc) R.2.2.1.length (pkCells R.2.2.1)
set_option maxHeartbeats 16000000 in
set_option maxRecDepth 100000 in
theorem dkDo_any (S : Nat → Prop) (M : Nat) (v : Vw) (T : Tr) (kind n : Int) (x : ByteArray) (hv bv gv ov : Value) (w : World) (hM : Blk w M (dkC v T hv bv gv ov (.slice none 0 0)) 77) (hr : TrIn (fun g => S g ∧ g ≠ M) w hv bv gv ov T) (hS : ∀ g, w.heap.size ≤ g → S g) (hT : T.chk = 0) (hvc : v.chk = 0) (ha : actE kind n x = 0) :
  Calls Tryz.prog 31 #[.pointer (some ⟨M, 0, none⟩), .agg #[.int .i64 kind, .int .i64 n, .string x]] w fun e w' => e = .returned (.int .i64 (doR T v kind n x).2.2.2) ∧ ((doR T v kind n x).2.2.2 = 0 → DkQ S M w.heap.size w' (doR T v kind n x)) ∧ Kept [M] w w' := by
 obtain ⟨ha0, hc, bo, bc, ga, gc, oa, oc, eh, eb, eg, eo⟩ := hr.slices
 obtain ⟨_, _, _, hst, _⟩ := Tr.chk_zero.1 hT
 obtain ⟨hv1, hv2⟩ := Vw.chk_zero.1 hvc
 obtain ⟨R, hR⟩ : ∃ R, R = doR T v kind n x := ⟨_, rfl⟩
 have hRR : R = if kind = 1 then (if (feedR T x.data.toList).2.2 = 0 then ((feedR T x.data.toList).1, v, [], 0) else badDo (feedR T x.data.toList).2.2)
  else if kind = 2 then (if T.A.length = 0 then badDo 5 else (T, v.cur 1 (T.first + (T.A.length - 1 : Nat)) 0, [], 0))
  else if kind = 3 then (if v.fresh = true then badDo 4 else (T, v.cur 2 v.g v.f, [], 0))
  else if kind = 4 then (if n < 0 ∨ 1000000 < n then badDo 3 else if T.A.length = 0 then badDo 5 else (T, v.cur 3 (seekN T.first T.L T.O n) 0, [], 0))
  else if v.fresh = true then badDo 4 else if n < 0 ∨ 1000000 < n then badDo 3
  else if (sendF T n 40 v []).2.2 = 0 then (T, (sendF T n 40 v []).1, (sendF T n 40 v []).2.1, 0) else badDo (sendF T n 40 v []).2.2 := by
  rw [hR]; unfold doR; rw [if_pos ha]
 have hk5 : kind = 1 ∨ kind = 2 ∨ kind = 3 ∨ kind = 4 ∨ kind = 5 := by
  unfold actE at ha
  by_cases h : kind < 1 ∨ 5 < kind
  ·rw [if_pos h] at ha; cases ha
  ·omega
 obtain ⟨hn, hhn⟩ : ∃ x, x = T.h.length := ⟨_, rfl⟩
 obtain ⟨bn, hbn⟩ : ∃ x, x = T.o.length := ⟨_, rfl⟩
 obtain ⟨ln, hln⟩ : ∃ x, x = T.L.length := ⟨_, rfl⟩
 obtain ⟨lo, hlo⟩ : ∃ x, x = T.O.length := ⟨_, rfl⟩
 rw [← hhn] at eh
 rw [← hbn] at eb
 rw [← hln] at eg
 rw [← hlo] at eo
 have HR0 := hr
 have hMl := hM.lt
 obtain ⟨m, g, f, l, t, s⟩ := v
 simp only [Vw.fresh] at hv1
 simp only at hv2
 rw [eh, eb, eg, eo] at hM hr
 have HDK : Hid (∀ (w' : World) (T' : Tr) (v' : Vw) (hv' bv' gv' ov' : Value), R = (T', v', [], 0) → Blk w' M (dkC v' T' hv' bv' gv' ov' (.slice none 0 0)) 77 → TrIn (fun g => S g ∧ g ≠ M) w' hv' bv' gv' ov' T' → DkQ S M w.heap.size w' R) := fun w' T' v' hv' bv' gv' ov' h1 h2 h3 => by
  rw [h1]; exact ⟨hv', bv', gv', ov', none, 0, h2, h3, World.ownsRow_nil _ _ _ _⟩
 obtain ⟨tl, htl⟩ : ∃ x, x = T.last := ⟨_, rfl⟩
 obtain ⟨tn, htn⟩ : ∃ x, x = T.next := ⟨_, rfl⟩
 obtain ⟨first, hfi⟩ : ∃ x, x = T.first := ⟨_, rfl⟩
 have HTT : Hid (tl = T.last ∧ tn = T.next ∧ first = T.first) := ⟨htl, htn, hfi⟩
 have HM0 : Blk w M #[.int .i64 m, .int .i64 g, .int .i64 f, .int .i64 l, .int .i64 t, .int .i64 s, .int .i64 tl, .int .i64 tn, .slice ha0 hn hc, .slice bo bn bc, .int .i64 first, .slice ga ln gc, .slice oa lo oc, .slice none 0 0] 77 := by rw [htl, htn, hfi]; exact hM
 obtain ⟨B, hB⟩ : ∃ B, B = w.heap.size := ⟨_, rfl⟩
 obtain ⟨W, hW⟩ : ∃ W, W = (w.alloc (.cells #[.pointer (some ⟨M, 0, none⟩)] 119)).alloc (.cells #[.int .i64 kind, .int .i64 n, .string x] 47) := ⟨_, rfl⟩
 have hbW : Below w.heap.size w W := by rw [hW]; exact ((Below.refl _ w).alloc (Nat.le_refl _) _).alloc (by simp) _
 have HB : Hid (Blk W B #[.pointer (some ⟨M, 0, none⟩)] 119) := by
  have := (Blk.new w #[.pointer (some ⟨M, 0, none⟩)] 119).alloc (.cells #[.int .i64 kind, .int .i64 n, .string x] 47)
  rw [← hW, ← hB] at this
  exact this
 have HC : Hid (Blk W (B + 1) #[.int .i64 kind, .int .i64 n, .string x] 47) := by
  have := Blk.new (w.alloc (.cells #[.pointer (some ⟨M, 0, none⟩)] 119)) #[.int .i64 kind, .int .i64 n, .string x] 47
  rw [World.size_alloc, ← hW, ← hB] at this
  exact this
 have HMW : Hid (Blk W M #[.int .i64 m, .int .i64 g, .int .i64 f, .int .i64 l, .int .i64 t, .int .i64 s, .int .i64 tl, .int .i64 tn, .slice ha0 hn hc, .slice bo bn bc, .int .i64 first, .slice ga ln gc, .slice oa lo oc, .slice none 0 0] 77) := HM0.below hbW hMl
 have HTW : Hid (TrIn (fun g => S g ∧ g ≠ M) W (.slice ha0 hn hc) (.slice bo bn bc) (.slice ga ln gc) (.slice oa lo oc) T) := hr.below hbW
 have HK : Hid (Kept [M] w W) := (Kept.refl _ _).below hbW
 have hBW : B + 2 ≤ W.heap.size := by have := HC.out.lt; omega
 have HBS : Hid (B = w.heap.size) := hB
 have HSU : Hid (∀ g, w.heap.size ≤ g → S g) := hS
 have HST : Hid (stchk T.first T.L T.O = 0 ∧ T.chk = 0) := ⟨hst, hT⟩
 have HVC : Hid (((m == 0 && (g == 0 && f == 0)) = true ∨ curE m g f = 0) ∧ outE l t s = 0) := ⟨hv1, hv2⟩
 have HRR : Hid _ := hRR
 obtain ⟨QF, hQF⟩ : ∃ Q : World → Prop, Q = fun w' => DkQ S M w.heap.size w' R := ⟨_, rfl⟩
 have HQ : Hid (∀ (w' : World) (T' : Tr) (v' : Vw) (hv' bv' gv' ov' : Value), R = (T', v', [], 0) → Blk w' M (dkC v' T' hv' bv' gv' ov' (.slice none 0 0)) 77 → TrIn (fun g => S g ∧ g ≠ M) w' hv' bv' gv' ov' T' → QF w') := by rw [hQF]; exact HDK.out
 have HQS : Hid (∀ (w' : World) (va : Option Addr) (vc : Nat), R = (T, (sendF T n 40 ⟨m, g, f, l, t, s⟩ []).1, (sendF T n 40 ⟨m, g, f, l, t, s⟩ []).2.1, 0) → Blk w' M (dkC (sendF T n 40 ⟨m, g, f, l, t, s⟩ []).1 T (.slice ha0 hn hc) (.slice bo bn bc) (.slice ga ln gc) (.slice oa lo oc) (.slice va (sendF T n 40 ⟨m, g, f, l, t, s⟩ []).2.1.length vc)) 77 → TrIn (fun g => S g ∧ g ≠ M) w' (.slice ha0 hn hc) (.slice bo bn bc) (.slice ga ln gc) (.slice oa lo oc) T → (∃ b, w.heap.size ≤ b ∧ w'.ownsRow b 63 6 (.slice va (sendF T n 40 ⟨m, g, f, l, t, s⟩ []).2.1.length vc) (sendF T n 40 ⟨m, g, f, l, t, s⟩ []).2.1.length (pkCells (sendF T n 40 ⟨m, g, f, l, t, s⟩ []).2.1)) → QF w') := fun w' va vc h1 h2 h3 ⟨b, h4, h5⟩ => by
  rw [hQF]
  show DkQ S M w.heap.size w' R
  rw [h1]; exact ⟨_, _, _, _, va, vc, h2, h3, owns_base h5 h4⟩
 rw [← hR]
 suffices hgoal : Calls Tryz.prog 31 #[.pointer (some ⟨M, 0, none⟩), .agg #[.int .i64 kind, .int .i64 n, .string x]] w fun e w' => e = .returned (.int .i64 R.2.2.2) ∧ (R.2.2.2 = 0 → QF w') ∧ Kept [M] w w' by
  rw [hQF] at hgoal; exact hgoal
 clear hM hr HR0 hS hT hvc ha hst hv1 hv2 hR hRR eh eb eg eo hhn hbn hln hlo htl htn hfi HM0 hbW hQF HDK
 go_enter Tryz.func31, Tryz.ntmps31
 go_upto_region 1 with fail
 rw [← hW]
 try rw [← hB]
 clear hW hB
 obtain ⟨c0, c1, c2⟩ := HC.out.three
 have b0 := HB.out.cell (j := 0) (u := .pointer (some ⟨M, 0, none⟩)) rfl
 have lB := HB.out.lt
 have lC := HC.out.lt
 have lM := HMW.out.lt
 have tG : GrsIn (fun _ => True) W (.slice ga ln gc) T.L := HTW.out.2.2.1.mono fun _ _ _ => trivial
 have tO : FrsIn (fun _ => True) W (.slice oa lo oc) T.O := HTW.out.2.2.2.mono fun _ _ _ => trivial
 have HGO : Hid (GrsIn (fun _ => True) W (.slice ga ln gc) T.L ∧ FrsIn (fun _ => True) W (.slice oa lo oc) T.O) := ⟨tG, tO⟩
 clear tG tO
 have HRW : Hid (∀ (w' : World) (T' : Tr), Kept [M] W w' → TrIn (fun g => S g ∧ g ≠ M) w' (.slice ha0 hn hc) (.slice bo bn bc) (.slice ga ln gc) (.slice oa lo oc) T) := fun w' _ hk => HTW.out.to (hk.sameOn (fun g h => by simp; exact h.2)) (fun _ _ h => h)
 rcases hk5 with rfl | rfl | rfl | rfl | rfl
 ·-- feed
  obtain ⟨F, cl, er, hF⟩ : ∃ F cl er, feedA T x.data.toList = (F, cl, er) := ⟨_, _, _, rfl⟩
  have e1 : feedR T x.data.toList = (F, cl, er) := by
   rw [← hF]; unfold feedA; rw [if_pos HST.out.2]
  have HR1 : Hid (R = if er = 0 then (F, ⟨m, g, f, l, t, s⟩, [], 0) else badDo er) := by
   have := HRR.out
   rw [if_pos rfl, e1] at this
   exact this
  have HFD : Hid (Calls Tryz.prog 71 #[.pointer (some ⟨M, 0, none⟩), .string x] W fun e w' => e = .returned (.int .i64 er) ∧ (∃ hv' bv' gv' ov', Blk w' M #[.int .i64 m, .int .i64 g, .int .i64 f, .int .i64 l, .int .i64 t, .int .i64 s, .int .i64 F.last, .int .i64 F.next, hv', bv', .int .i64 F.first, gv', ov', .slice none 0 0] 77 ∧ TrIn (fun g => g ≠ M ∧ W.heap.size ≤ g) w' hv' bv' gv' ov' F) ∧ Kept [M] W w') := by
   have q := dkFeed_any (fun g => S g ∧ g ≠ M) M T F cl er x.data.toList (.int .i64 m) (.int .i64 g) (.int .i64 f) (.int .i64 l) (.int .i64 t) (.int .i64 s) _ _ _ _ (.slice none 0 0) W hF (by have := HMW.out; rw [HTT.out.1, HTT.out.2.1, HTT.out.2.2] at this; exact this) HTW.out
   rw [ba_of] at q
   exact q
  have HE : Hid (R.2.2.2 = er) := by
   show _ = _
   rw [HR1.out]
   by_cases h : er = 0
   ·rw [if_pos h, h]
   ·rw [if_neg h]; rfl
  clear HRR HTW HGO HRW HQS HVC HST hF e1
  go_wp2_with fail
  refine HFD.out.mono ?_
  rintro e w1 ⟨rfl, ⟨hv', bv', gv', ov', k1, k2⟩, k3⟩
  have HK1 : Hid (Kept [M] w w1) := HK.out.trans k3
  have HQ1 : Hid (R.2.2.2 = 0 → QF w1) := fun h => by
   rw [HE.out] at h
   have h1 := HR1.out
   rw [if_pos h] at h1
   exact HQ.out w1 F ⟨m, g, f, l, t, s⟩ _ _ _ _ h1 k1 (k2.mono fun g _ hg => ⟨HSU.out g (by have := HBS.out; omega), hg.1⟩)
  clear k1 k2 k3 HFD HMW HB HC HQ c0 c1 c2 b0
  go_wp2
  go_ret
  exact ⟨by rw [HE.out]; rfl, HQ1.out, HK1.out⟩
 ·-- live
  have HR1 : Hid (R = if T.A.length = 0 then badDo 5 else (T, ⟨1, T.first + (T.A.length - 1 : Nat), 0, l, t, s⟩, [], 0)) := by
   have := HRR.out
   rw [if_neg (by decide), if_pos rfl] at this
   exact this
  obtain ⟨E, hE⟩ : ∃ E, E = seekE T.first T.L T.O 1000000 := ⟨_, rfl⟩
  obtain ⟨m1, hm1⟩ : ∃ E, E = begM T.first T.L T.O 1 1000000 := ⟨_, rfl⟩
  obtain ⟨g1, hg1⟩ : ∃ E, E = seekN T.first T.L T.O 1000000 := ⟨_, rfl⟩
  have hE2 : E = if T.A.length = 0 then 5 else 0 := by
   rw [hE]; unfold seekE; rw [if_pos HST.out.1, if_neg (by decide), if_neg (by decide)]
  have HE : Hid (R.2.2.2 = E) := by
   show _ = _
   rw [HR1.out, hE2]
   by_cases h : T.A.length = 0
   ·rw [if_pos h, if_pos h]; rfl
   ·rw [if_neg h, if_neg h]
  have HG : Hid (E = 0 → R = (T, ⟨m1, g1, 0, l, t, s⟩, [], 0)) := fun h => by
   have hl : ¬ T.A.length = 0 := fun h0 => by
    rw [hE2, if_pos h0] at h; cases h
   rw [HR1.out, if_neg hl, hm1, hg1, seek_last HST.out.1]
   unfold begM
   rw [if_pos (by rw [← hE]; exact h), if_neg hl]
  have HSET : Hid (Calls Tryz.prog 72 #[.pointer (some ⟨M, 0, none⟩), .func (.func 73) #[] #[.pointer (some ⟨B, 0, none⟩)]] W fun e w' => e = .returned (.int .i64 E) ∧ Blk w' M #[.int .i64 m1, .int .i64 g1, .int .i64 0, .int .i64 l, .int .i64 t, .int .i64 s, .int .i64 tl, .int .i64 tn, .slice ha0 hn hc, .slice bo bn bc, .int .i64 first, .slice ga ln gc, .slice oa lo oc, .slice none 0 0] 77 ∧ Kept [M] W w') := by
   have q := doLive_any B M _ _ _ _ _ _ _ _ _ _ first _ _ _ T.L T.O W HB.out HMW.out HGO.out.1 HGO.out.2
   rw [HTT.out.2.2, ← hE, ← hm1, ← hg1] at q
   exact dkSet1_any B M m g f _ _ _ _ _ _ _ _ _ _ _ m1 g1 0 E W HMW.out q
  clear HRR HTW HGO HQS HVC HST hE hm1 hg1 hE2
  go_wp2_with fail
  refine HSET.out.mono ?_
  rintro e w1 ⟨rfl, k1, k3⟩
  have HK1 : Hid (Kept [M] w w1) := HK.out.trans k3
  have HQ1 : Hid (R.2.2.2 = 0 → QF w1) := fun h => by
   rw [HE.out] at h
   refine HQ.out w1 T ⟨m1, g1, 0, l, t, s⟩ _ _ _ _ (HG.out h) ?_ (HRW.out w1 T k3)
   rw [HTT.out.1, HTT.out.2.1, HTT.out.2.2] at k1
   exact k1
  clear k1 k3 HSET HMW HB HC HQ HRW c0 c1 c2 b0
  go_wp2
  go_ret
  exact ⟨by rw [HE.out]; rfl, HQ1.out, HK1.out⟩
 ·-- pause
  have HR1 : Hid (R = if (m == 0 && (g == 0 && f == 0)) = true then badDo 4 else (T, ⟨2, g, f, l, t, s⟩, [], 0)) := by
   have := HRR.out
   rw [if_neg (by decide), if_neg (by decide), if_pos rfl] at this
   exact this
  obtain ⟨b, hb⟩ : ∃ b, b = (m == 0 && (g == 0 && f == 0)) := ⟨_, rfl⟩
  have HUN : Hid (∀ U : World, Calls Tryz.prog 77 #[.agg #[.int .i64 m, .int .i64 g, .int .i64 f]] U fun e w' => e = .returned (.bool b) ∧ Below U.heap.size U w') := fun U => by rw [hb]; exact isUnset_any m g f U
  rw [← hb] at HR1 HVC
  obtain ⟨y0, y1, y2, y3, y4, y5, y6, y7, y8, y9, y10, y11, y12, y13⟩ := HMW.out.fourteen
  clear hb HRR HTW HGO HQS
  go_wp2_with fail
  refine (HUN.out W).mono ?_
  rintro e w1 ⟨rfl, u1⟩
  have HM1 : Hid (Blk w1 M #[.int .i64 m, .int .i64 g, .int .i64 f, .int .i64 l, .int .i64 t, .int .i64 s, .int .i64 tl, .int .i64 tn, .slice ha0 hn hc, .slice bo bn bc, .int .i64 first, .slice ga ln gc, .slice oa lo oc, .slice none 0 0] 77) := HMW.out.below u1 HMW.out.lt
  have HB1 : Hid (Blk w1 B #[.pointer (some ⟨M, 0, none⟩)] 119) := HB.out.below u1 HB.out.lt
  have HC1 := HC.out.below u1 HC.out.lt
  have HK1 : Hid (Kept [M] w w1) := HK.out.below u1
  have HKW1 : Hid (Kept [M] W w1) := (Kept.refl _ _).below u1
  obtain ⟨c0, c1, c2⟩ := HC1.three
  have b0 := HB1.out.cell (j := 0) (u := .pointer (some ⟨M, 0, none⟩)) rfl
  have lB := HB1.out.lt
  have lC := HC1.lt
  have lM := HM1.out.lt
  clear u1 HMW HB HC HC1 HUN y0 y1 y2 y3 y4 y5 y6 y7 y8 y9 y10 y11 y12 y13
  cases b
  case true =>
   have hR9 : Hid (R.2.2.2 = 4) := by show _ = _; rw [HR1.out, if_pos rfl]; rfl
   clear HRW HQ HB1 HM1
   go_wp2
   go_ret
   exact ⟨by rw [hR9.out]; rfl, fun h => (by rw [hR9.out] at h; cases h), HK1.out⟩
  case false =>
   have hR9 : Hid (R = (T, ⟨2, g, f, l, t, s⟩, [], 0)) := by show _ = _; rw [HR1.out, if_neg (by decide)]
   have hcu : curE m g f = 0 := HVC.out.1.resolve_left (by decide)
   have HSET : Hid (Calls Tryz.prog 72 #[.pointer (some ⟨M, 0, none⟩), .func (.func 78) #[] #[.pointer (some ⟨B, 0, none⟩)]] w1 fun e w' => e = .returned (.int .i64 0) ∧ Blk w' M #[.int .i64 2, .int .i64 g, .int .i64 f, .int .i64 l, .int .i64 t, .int .i64 s, .int .i64 tl, .int .i64 tn, .slice ha0 hn hc, .slice bo bn bc, .int .i64 first, .slice ga ln gc, .slice oa lo oc, .slice none 0 0] 77 ∧ Kept [M] w1 w') := by
    have q := doPause_any B M m g f _ _ _ _ _ _ _ _ _ _ _ w1 HB1.out HM1.out
    unfold pauN at q
    rw [hcu, if_pos rfl, if_pos rfl, if_pos rfl] at q
    exact dkSet3_any B M m g f _ _ _ _ _ _ _ _ _ _ _ 2 g f 0 w1 HM1.out q
   clear hcu HVC HB1 HM1
   go_wp2_with fail
   refine HSET.out.mono ?_
   rintro e w2 ⟨rfl, k1, k3⟩
   have HK2 : Hid (Kept [M] w w2) := HK1.out.trans k3
   have HQ1 : Hid (QF w2) := by
    refine HQ.out w2 T ⟨2, g, f, l, t, s⟩ _ _ _ _ hR9.out ?_ (HRW.out w2 T (HKW1.out.trans k3))
    rw [HTT.out.1, HTT.out.2.1, HTT.out.2.2] at k1
    exact k1
   clear k1 k3 HSET HQ HRW c0 c1 c2 b0
   go_wp2
   go_ret
   exact ⟨by rw [hR9.out]; rfl, fun _ => HQ1.out, HK2.out⟩
 ·-- seek
  have HR1 : Hid (R = if n < 0 ∨ 1000000 < n then badDo 3 else if T.A.length = 0 then badDo 5 else (T, ⟨3, seekN T.first T.L T.O n, 0, l, t, s⟩, [], 0)) := by
   have := HRR.out
   rw [if_neg (by decide), if_neg (by decide), if_neg (by decide), if_pos rfl] at this
   exact this
  obtain ⟨E, hE⟩ : ∃ E, E = seekE T.first T.L T.O n := ⟨_, rfl⟩
  obtain ⟨m1, hm1⟩ : ∃ E, E = begM T.first T.L T.O 3 n := ⟨_, rfl⟩
  obtain ⟨g1, hg1⟩ : ∃ E, E = seekN T.first T.L T.O n := ⟨_, rfl⟩
  have hE2 : E = if n < 0 ∨ 1000000 < n then 3 else if T.A.length = 0 then 5 else 0 := by
   rw [hE]; unfold seekE; rw [if_pos HST.out.1]
   by_cases h1 : n < 0
   ·rw [if_pos h1, if_pos (.inl h1)]
   ·rw [if_neg h1]
    by_cases h2 : 1000000 < n
    ·rw [if_pos h2, if_pos (.inr h2)]
    ·rw [if_neg h2, if_neg (show ¬ (n < 0 ∨ 1000000 < n) by omega)]
  have HE : Hid (R.2.2.2 = E) := by
   show _ = _
   rw [HR1.out, hE2]
   by_cases h : n < 0 ∨ 1000000 < n
   ·rw [if_pos h, if_pos h]; rfl
   ·rw [if_neg h, if_neg h]
    by_cases h3 : T.A.length = 0
    ·rw [if_pos h3, if_pos h3]; rfl
    ·rw [if_neg h3, if_neg h3]
  have HG : Hid (E = 0 → R = (T, ⟨m1, g1, 0, l, t, s⟩, [], 0)) := fun h => by
   have h0 := h
   rw [hE2] at h
   have hn : ¬ (n < 0 ∨ 1000000 < n) := fun h1 => by rw [if_pos h1] at h; cases h
   rw [if_neg hn] at h
   have hl : ¬ T.A.length = 0 := fun h1 => by rw [if_pos h1] at h; cases h
   rw [HR1.out, if_neg hn, if_neg hl, hm1, hg1]
   unfold begM
   rw [if_pos (by rw [← hE]; exact h0)]
  have HSET : Hid (Calls Tryz.prog 72 #[.pointer (some ⟨M, 0, none⟩), .func (.func 75) #[] #[.pointer (some ⟨B, 0, none⟩), .pointer (some ⟨B + 1, 0, none⟩)]] W fun e w' => e = .returned (.int .i64 E) ∧ Blk w' M #[.int .i64 m1, .int .i64 g1, .int .i64 0, .int .i64 l, .int .i64 t, .int .i64 s, .int .i64 tl, .int .i64 tn, .slice ha0 hn hc, .slice bo bn bc, .int .i64 first, .slice ga ln gc, .slice oa lo oc, .slice none 0 0] 77 ∧ Kept [M] W w') := by
   have q := doSeek_any B (B + 1) M 4 n x _ _ _ _ _ _ _ _ _ _ first _ _ _ T.L T.O W HB.out HC.out HMW.out HGO.out.1 HGO.out.2
   rw [HTT.out.2.2, ← hE, ← hm1, ← hg1] at q
   exact dkSet2_any B (B + 1) M m g f _ _ _ _ _ _ _ _ _ _ _ m1 g1 0 E W HMW.out q
  clear HRR HTW HGO HQS HVC HST hE hm1 hg1 hE2
  go_wp2_with fail
  refine HSET.out.mono ?_
  rintro e w1 ⟨rfl, k1, k3⟩
  have HK1 : Hid (Kept [M] w w1) := HK.out.trans k3
  have HQ1 : Hid (R.2.2.2 = 0 → QF w1) := fun h => by
   rw [HE.out] at h
   refine HQ.out w1 T ⟨m1, g1, 0, l, t, s⟩ _ _ _ _ (HG.out h) ?_ (HRW.out w1 T k3)
   rw [HTT.out.1, HTT.out.2.1, HTT.out.2.2] at k1
   exact k1
  clear k1 k3 HSET HMW HB HC HQ HRW c0 c1 c2 b0
  go_wp2
  go_ret
  exact ⟨by rw [HE.out]; rfl, HQ1.out, HK1.out⟩
 ·-- send
  have HR1 : Hid (R = if (m == 0 && (g == 0 && f == 0)) = true then badDo 4 else if n < 0 ∨ 1000000 < n then badDo 3 else if (sendF T n 40 ⟨m, g, f, l, t, s⟩ []).2.2 = 0 then (T, (sendF T n 40 ⟨m, g, f, l, t, s⟩ []).1, (sendF T n 40 ⟨m, g, f, l, t, s⟩ []).2.1, 0) else badDo (sendF T n 40 ⟨m, g, f, l, t, s⟩ []).2.2) := by
   have := HRR.out
   rw [if_neg (by decide), if_neg (by decide), if_neg (by decide), if_neg (by decide)] at this
   exact this
  obtain ⟨b, hb⟩ : ∃ b, b = (m == 0 && (g == 0 && f == 0)) := ⟨_, rfl⟩
  have HUN : Hid (∀ U : World, Calls Tryz.prog 77 #[.agg #[.int .i64 m, .int .i64 g, .int .i64 f]] U fun e w' => e = .returned (.bool b) ∧ Below U.heap.size U w') := fun U => by rw [hb]; exact isUnset_any m g f U
  rw [← hb] at HR1 HVC
  obtain ⟨y0, y1, y2, y3, y4, y5, y6, y7, y8, y9, y10, y11, y12, y13⟩ := HMW.out.fourteen
  clear hb HRR HTW HGO
  go_wp2_with fail
  refine (HUN.out W).mono ?_
  rintro e w1 ⟨rfl, u1⟩
  have HM1 : Hid (Blk w1 M #[.int .i64 m, .int .i64 g, .int .i64 f, .int .i64 l, .int .i64 t, .int .i64 s, .int .i64 tl, .int .i64 tn, .slice ha0 hn hc, .slice bo bn bc, .int .i64 first, .slice ga ln gc, .slice oa lo oc, .slice none 0 0] 77) := HMW.out.below u1 HMW.out.lt
  have HB1 : Hid (Blk w1 B #[.pointer (some ⟨M, 0, none⟩)] 119) := HB.out.below u1 HB.out.lt
  have HC1 := HC.out.below u1 HC.out.lt
  have HK1 : Hid (Kept [M] w w1) := HK.out.below u1
  have HKW1 : Hid (Kept [M] W w1) := (Kept.refl _ _).below u1
  have hs1 := u1.size
  obtain ⟨c0, c1, c2⟩ := HC1.three
  have b0 := HB1.out.cell (j := 0) (u := .pointer (some ⟨M, 0, none⟩)) rfl
  have lB := HB1.out.lt
  have lC := HC1.lt
  have lM := HM1.out.lt
  clear u1 HMW HB HC HC1 HUN y0 y1 y2 y3 y4 y5 y6 y7 y8 y9 y10 y11 y12 y13 HQ
  cases b
  case true =>
   have hR9 : Hid (R.2.2.2 = 4) := by show _ = _; rw [HR1.out, if_pos rfl]; rfl
   clear HRW HQS HB1 HM1
   go_wp2
   go_ret
   exact ⟨by rw [hR9.out]; rfl, fun h => (by rw [hR9.out] at h; cases h), HK1.out⟩
  case false =>
   have hcu : curE m g f = 0 := HVC.out.1.resolve_left (by decide)
   have HSND : Hid (Calls Tryz.prog 80 #[.pointer (some ⟨M, 0, none⟩), .int .i64 n] w1 fun e w' => e = .returned (.int .i64 R.2.2.2) ∧ (R.2.2.2 = 0 → QF w') ∧ Kept [M] w1 w') := by
    refine (dkSend_any M ⟨m, g, f, l, t, s⟩ T n _ _ _ _ w1 (by have := HM1.out; rw [HTT.out.1, HTT.out.2.1, HTT.out.2.2] at this; exact this) ((HRW.out w1 T HKW1.out).mono fun _ _ h => h.2) HST.out.1 hcu HVC.out.2).mono ?_
    rintro e w' ⟨rfl, k1, k2⟩
    have hRs : R = if n < 0 ∨ 1000000 < n then badDo 3 else if (sendF T n 40 ⟨m, g, f, l, t, s⟩ []).2.2 = 0 then (T, (sendF T n 40 ⟨m, g, f, l, t, s⟩ []).1, (sendF T n 40 ⟨m, g, f, l, t, s⟩ []).2.1, 0) else badDo (sendF T n 40 ⟨m, g, f, l, t, s⟩ []).2.2 := by rw [HR1.out, if_neg (by decide)]
    have hEs : R.2.2.2 = sndE T n ⟨m, g, f, l, t, s⟩ := by
     rw [hRs]; unfold sndE
     by_cases h : n < 0 ∨ 1000000 < n
     ·rw [if_pos h, if_pos h]; rfl
     ·rw [if_neg h, if_neg h]
      by_cases h3 : (sendF T n 40 ⟨m, g, f, l, t, s⟩ []).2.2 = 0
      ·rw [if_pos h3, h3]
      ·rw [if_neg h3]; rfl
    refine ⟨by rw [hEs], fun h => ?_, k2⟩
    have h0 := h
    rw [hEs] at h0
    obtain ⟨va, vc, k3, k4⟩ := k1 h0
    have hn : ¬ (n < 0 ∨ 1000000 < n) := fun h1 => by rw [hRs, if_pos h1] at h; cases h
    have h3 : (sendF T n 40 ⟨m, g, f, l, t, s⟩ []).2.2 = 0 := by unfold sndE at h0; rw [if_neg hn] at h0; exact h0
    rw [if_neg hn, if_pos h3] at hRs
    exact HQS.out w' va vc hRs k3 (HRW.out w' T (HKW1.out.trans k2)) ⟨w1.heap.size, by have := HBS.out; omega, k4⟩
   clear hcu HVC HB1 HM1 HR1 HST HQS HRW
   go_wp2_with fail
   refine HSND.out.mono ?_
   rintro e w2 ⟨rfl, k1, k3⟩
   have HK2 : Hid (Kept [M] w w2) := HK1.out.trans k3
   have HQ1 : Hid (R.2.2.2 = 0 → QF w2) := k1
   clear k1 k3 HSND c0 c1 c2 b0
   go_wp2
   go_ret
   exact ⟨rfl, HQ1.out, HK2.out⟩
theorem Blk.sixv {w : World} {b : Nat} {x0 x1 x2 x3 x4 x5 : Value} {t : TypeId} (h : Blk w b #[x0, x1, x2, x3, x4, x5] t) : w.cell? ⟨b, 0, none⟩ = some x0 ∧ w.cell? ⟨b, 1, none⟩ = some x1 ∧ w.cell? ⟨b, 2, none⟩ = some x2 ∧ w.cell? ⟨b, 3, none⟩ = some x3 ∧ w.cell? ⟨b, 4, none⟩ = some x4 ∧ w.cell? ⟨b, 5, none⟩ = some x5 :=
 ⟨h.cell rfl, h.cell rfl, h.cell rfl, h.cell rfl, h.cell rfl, h.cell rfl⟩
theorem fourteen_below {B A : Nat} {w V : World} (h : Below B w V) (hA : B ≤ A) (x0 x1 x2 x3 x4 x5 x6 x7 x8 x9 x10 x11 x12 x13 : Value) : Below B w ((((((((((((((V.setCell ⟨A, 0, none⟩ x0).setCell ⟨A, 1, none⟩ x1).setCell ⟨A, 2, none⟩ x2).setCell ⟨A, 3, none⟩ x3).setCell ⟨A, 4, none⟩ x4).setCell ⟨A, 5, none⟩ x5).setCell ⟨A, 6, none⟩ x6).setCell ⟨A, 7, none⟩ x7).setCell ⟨A, 8, none⟩ x8).setCell ⟨A, 9, none⟩ x9).setCell ⟨A, 10, none⟩ x10).setCell ⟨A, 11, none⟩ x11).setCell ⟨A, 12, none⟩ x12).setCell ⟨A, 13, none⟩ x13) :=
 (((((((((((((h.setCell (by exact hA) _).setCell (by exact hA) _).setCell (by exact hA) _).setCell (by exact hA) _).setCell (by exact hA) _).setCell (by exact hA) _).setCell (by exact hA) _).setCell (by exact hA) _).setCell (by exact hA) _).setCell (by exact hA) _).setCell (by exact hA) _).setCell (by exact hA) _).setCell (by exact hA) _).setCell (by exact hA) _
set_option maxHeartbeats 4000000 in
theorem dk_set14 {w : World} {g : Nat} {C : Array Value} {t : TypeId} (h : Blk w g C t) (hs : C.size = 14) (x0 x1 x2 x3 x4 x5 x6 x7 x8 x9 x10 x11 x12 x13 : Value) :
  ((((((((((((((w.setCell ⟨g, 0, none⟩ x0).setCell ⟨g, 1, none⟩ x1).setCell ⟨g, 2, none⟩ x2).setCell ⟨g, 3, none⟩ x3).setCell ⟨g, 4, none⟩ x4).setCell ⟨g, 5, none⟩ x5).setCell ⟨g, 6, none⟩ x6).setCell ⟨g, 7, none⟩ x7).setCell ⟨g, 8, none⟩ x8).setCell ⟨g, 9, none⟩ x9).setCell ⟨g, 10, none⟩ x10).setCell ⟨g, 11, none⟩ x11).setCell ⟨g, 12, none⟩ x12).setCell ⟨g, 13, none⟩ x13).heap.size = w.heap.size ∧ Blk ((((((((((((((w.setCell ⟨g, 0, none⟩ x0).setCell ⟨g, 1, none⟩ x1).setCell ⟨g, 2, none⟩ x2).setCell ⟨g, 3, none⟩ x3).setCell ⟨g, 4, none⟩ x4).setCell ⟨g, 5, none⟩ x5).setCell ⟨g, 6, none⟩ x6).setCell ⟨g, 7, none⟩ x7).setCell ⟨g, 8, none⟩ x8).setCell ⟨g, 9, none⟩ x9).setCell ⟨g, 10, none⟩ x10).setCell ⟨g, 11, none⟩ x11).setCell ⟨g, 12, none⟩ x12).setCell ⟨g, 13, none⟩ x13) g #[x0, x1, x2, x3, x4, x5, x6, x7, x8, x9, x10, x11, x12, x13] t ∧ ∀ j, j ≠ g → ((((((((((((((w.setCell ⟨g, 0, none⟩ x0).setCell ⟨g, 1, none⟩ x1).setCell ⟨g, 2, none⟩ x2).setCell ⟨g, 3, none⟩ x3).setCell ⟨g, 4, none⟩ x4).setCell ⟨g, 5, none⟩ x5).setCell ⟨g, 6, none⟩ x6).setCell ⟨g, 7, none⟩ x7).setCell ⟨g, 8, none⟩ x8).setCell ⟨g, 9, none⟩ x9).setCell ⟨g, 10, none⟩ x10).setCell ⟨g, 11, none⟩ x11).setCell ⟨g, 12, none⟩ x12).setCell ⟨g, 13, none⟩ x13).heap[j]? = w.heap[j]? := by
 obtain ⟨l⟩ := C
 match l, hs with
 | [c0, c1, c2, c3, c4, c5, c6, c7, c8, c9, c10, c11, c12, c13], _ =>
  have e : ∀ (V : World) (i : Nat) (x : Value), (V.setCell ⟨g, i, none⟩ x).heap.size = V.heap.size := fun V i x => by simp
  have k0 : Blk _ g #[x0, c1, c2, c3, c4, c5, c6, c7, c8, c9, c10, c11, c12, c13] t := h.set 0 x0
  have k1 : Blk _ g #[x0, x1, c2, c3, c4, c5, c6, c7, c8, c9, c10, c11, c12, c13] t := k0.set 1 x1
  have k2 : Blk _ g #[x0, x1, x2, c3, c4, c5, c6, c7, c8, c9, c10, c11, c12, c13] t := k1.set 2 x2
  have k3 : Blk _ g #[x0, x1, x2, x3, c4, c5, c6, c7, c8, c9, c10, c11, c12, c13] t := k2.set 3 x3
  have k4 : Blk _ g #[x0, x1, x2, x3, x4, c5, c6, c7, c8, c9, c10, c11, c12, c13] t := k3.set 4 x4
  have k5 : Blk _ g #[x0, x1, x2, x3, x4, x5, c6, c7, c8, c9, c10, c11, c12, c13] t := k4.set 5 x5
  have k6 : Blk _ g #[x0, x1, x2, x3, x4, x5, x6, c7, c8, c9, c10, c11, c12, c13] t := k5.set 6 x6
  have k7 : Blk _ g #[x0, x1, x2, x3, x4, x5, x6, x7, c8, c9, c10, c11, c12, c13] t := k6.set 7 x7
  have k8 : Blk _ g #[x0, x1, x2, x3, x4, x5, x6, x7, x8, c9, c10, c11, c12, c13] t := k7.set 8 x8
  have k9 : Blk _ g #[x0, x1, x2, x3, x4, x5, x6, x7, x8, x9, c10, c11, c12, c13] t := k8.set 9 x9
  have k10 : Blk _ g #[x0, x1, x2, x3, x4, x5, x6, x7, x8, x9, x10, c11, c12, c13] t := k9.set 10 x10
  have k11 : Blk _ g #[x0, x1, x2, x3, x4, x5, x6, x7, x8, x9, x10, x11, c12, c13] t := k10.set 11 x11
  have k12 : Blk _ g #[x0, x1, x2, x3, x4, x5, x6, x7, x8, x9, x10, x11, x12, c13] t := k11.set 12 x12
  have k13 : Blk _ g #[x0, x1, x2, x3, x4, x5, x6, x7, x8, x9, x10, x11, x12, x13] t := k12.set 13 x13
  refine ⟨by rw [e, e, e, e, e, e, e, e, e, e, e, e, e, e], k13, fun j hj => ?_⟩
  iterate 13 refine (Below.heap_setCell _ _ _ _ (by exact hj)).trans ?_
  exact Below.heap_setCell _ _ _ _ (by exact hj)
theorem dk_cells14 {w : World} {g : Nat} {C : Array Value} {t : TypeId} (h : Blk w g C t) (hs : C.size = 14) : ∃ c0 c1 c2 c3 c4 c5 c6 c7 c8 c9 c10 c11 c12 c13, w.cell? ⟨g, 0, none⟩ = some c0 ∧ w.cell? ⟨g, 1, none⟩ = some c1 ∧ w.cell? ⟨g, 2, none⟩ = some c2 ∧ w.cell? ⟨g, 3, none⟩ = some c3 ∧ w.cell? ⟨g, 4, none⟩ = some c4 ∧ w.cell? ⟨g, 5, none⟩ = some c5 ∧ w.cell? ⟨g, 6, none⟩ = some c6 ∧ w.cell? ⟨g, 7, none⟩ = some c7 ∧ w.cell? ⟨g, 8, none⟩ = some c8 ∧ w.cell? ⟨g, 9, none⟩ = some c9 ∧ w.cell? ⟨g, 10, none⟩ = some c10 ∧ w.cell? ⟨g, 11, none⟩ = some c11 ∧ w.cell? ⟨g, 12, none⟩ = some c12 ∧ w.cell? ⟨g, 13, none⟩ = some c13 := by
 obtain ⟨l⟩ := C
 match l, hs with
 | [c0, c1, c2, c3, c4, c5, c6, c7, c8, c9, c10, c11, c12, c13], _ => exact ⟨c0, c1, c2, c3, c4, c5, c6, c7, c8, c9, c10, c11, c12, c13, h.fourteen⟩
def bldD (m g f l t s : Int) (r : Value) : Value := .agg (#[.int .i64 m, .int .i64 g, .int .i64 f, .int .i64 l, .int .i64 t, .int .i64 s] ++ aggC r ++ #[.slice none 0 0])
def dchk (T : Tr) (v : Vw) (kind n : Int) (x : ByteArray) : Int := if T.chk = 0 then (if v.chk = 0 then actE kind n x else v.chk) else T.chk
set_option maxHeartbeats 8000000 in
set_option maxRecDepth 100000 in
theorem deskCheck_any (T : Tr) (v : Vw) (kind n : Int) (x : ByteArray) (hv bv gv ov : Value) (w : World) (hr : TrIn (fun _ => True) w hv bv gv ov T) :
  Calls Tryz.prog 29 #[.agg #[.int .i64 T.last, .int .i64 T.next, hv, bv, .int .i64 T.first, gv, ov], .agg #[.int .i64 v.m, .int .i64 v.g, .int .i64 v.f, .int .i64 v.l, .int .i64 v.t, .int .i64 v.s], .agg #[.int .i64 kind, .int .i64 n, .string x]] w fun e w' => e = .returned (.int .i64 (dchk T v kind n x)) ∧ Below w.heap.size w w' := by
 obtain ⟨C, hC⟩ : ∃ C, C = T.chk := ⟨_, rfl⟩
 obtain ⟨D, hD⟩ : ∃ C, C = v.chk := ⟨_, rfl⟩
 obtain ⟨A, hA⟩ : ∃ C, C = actE kind n x := ⟨_, rfl⟩
 obtain ⟨E, hE⟩ : ∃ C, C = dchk T v kind n x := ⟨_, rfl⟩
 have HE : Hid (E = if C = 0 then (if D = 0 then A else D) else C) := by show E = _; rw [hE, hC, hD, hA]; rfl
 have HCT : Hid (∀ U, Below w.heap.size w U → Calls Tryz.prog 59 #[.agg #[.int .i64 T.last, .int .i64 T.next, hv, bv, .int .i64 T.first, gv, ov]] U fun e w' => e = .returned (.int .i64 C) ∧ Below U.heap.size U w') := fun U hU => by rw [hC]; exact trkCheck_any _ T hv bv gv ov U (hr.below hU)
 have HCV : Hid (∀ U : World, Calls Tryz.prog 66 #[.agg #[.int .i64 v.m, .int .i64 v.g, .int .i64 v.f, .int .i64 v.l, .int .i64 v.t, .int .i64 v.s]] U fun e w' => e = .returned (.int .i64 D) ∧ Below U.heap.size U w') := fun U => by rw [hD]; exact checkViewer_any v U
 have HCA : Hid (∀ U : World, Calls Tryz.prog 67 #[.agg #[.int .i64 kind, .int .i64 n, .string x]] U fun e w' => e = .returned (.int .i64 A) ∧ Below U.heap.size U w') := fun U => by rw [hA]; exact checkAct_any kind n x U
 rw [← hE]
 clear hC hD hA hE
 obtain ⟨ha, hc, bo, bc, ga, gc, oa, oc, eh, eb, eg, eo⟩ := hr.slices
 obtain ⟨hn, hhn⟩ : ∃ x, x = T.h.length := ⟨_, rfl⟩
 obtain ⟨bn, hbn⟩ : ∃ x, x = T.o.length := ⟨_, rfl⟩
 obtain ⟨ln, hln⟩ : ∃ x, x = T.L.length := ⟨_, rfl⟩
 obtain ⟨lo, hlo⟩ : ∃ x, x = T.O.length := ⟨_, rfl⟩
 rw [← hhn] at eh
 rw [← hbn] at eb
 rw [← hln] at eg
 rw [← hlo] at eo
 obtain ⟨tl, htl⟩ : ∃ x, x = T.last := ⟨_, rfl⟩
 obtain ⟨tn, htn⟩ : ∃ x, x = T.next := ⟨_, rfl⟩
 obtain ⟨first, hfi⟩ : ∃ x, x = T.first := ⟨_, rfl⟩
 obtain ⟨vm, vg, vf, vl, vt, vs⟩ := v
 simp only
 simp only at HCV
 rw [← htl, ← htn, ← hfi] at HCT ⊢
 obtain ⟨X, hX⟩ : ∃ x, x = w.heap.size := ⟨_, rfl⟩
 obtain ⟨V, hV⟩ : ∃ V, V = ((w.alloc (.cells #[.int .i64 tl, .int .i64 tn, .slice ha hn hc, .slice bo bn bc, .int .i64 first, .slice ga ln gc, .slice oa lo oc] 34)).alloc (.cells #[.int .i64 vm, .int .i64 vg, .int .i64 vf, .int .i64 vl, .int .i64 vt, .int .i64 vs] 40)).alloc (.cells #[.int .i64 kind, .int .i64 n, .string x] 47) := ⟨_, rfl⟩
 have HS : Hid (Stay V (fun U => (Blk U X #[.int .i64 tl, .int .i64 tn, .slice ha hn hc, .slice bo bn bc, .int .i64 first, .slice ga ln gc, .slice oa lo oc] 34 ∧ (Blk U (X + 1) #[.int .i64 vm, .int .i64 vg, .int .i64 vf, .int .i64 vl, .int .i64 vt, .int .i64 vs] 40 ∧ Blk U (X + 1 + 1) #[.int .i64 kind, .int .i64 n, .string x] 47)) ∧ Below X w U)) := by
  have b : Below w.heap.size w V := by rw [hV]; exact (((Below.refl _ w).alloc (Nat.le_refl _) _).alloc (by simp) _).alloc (by simp; omega) _
  have k0 := ((Blk.new w #[.int .i64 tl, .int .i64 tn, .slice ha hn hc, .slice bo bn bc, .int .i64 first, .slice ga ln gc, .slice oa lo oc] 34).alloc (.cells #[.int .i64 vm, .int .i64 vg, .int .i64 vf, .int .i64 vl, .int .i64 vt, .int .i64 vs] 40)).alloc (.cells #[.int .i64 kind, .int .i64 n, .string x] 47)
  have k1 := (Blk.new (w.alloc (.cells #[.int .i64 tl, .int .i64 tn, .slice ha hn hc, .slice bo bn bc, .int .i64 first, .slice ga ln gc, .slice oa lo oc] 34)) #[.int .i64 vm, .int .i64 vg, .int .i64 vf, .int .i64 vl, .int .i64 vt, .int .i64 vs] 40).alloc (.cells #[.int .i64 kind, .int .i64 n, .string x] 47)
  have k2 := Blk.new ((w.alloc (.cells #[.int .i64 tl, .int .i64 tn, .slice ha hn hc, .slice bo bn bc, .int .i64 first, .slice ga ln gc, .slice oa lo oc] 34)).alloc (.cells #[.int .i64 vm, .int .i64 vg, .int .i64 vf, .int .i64 vl, .int .i64 vt, .int .i64 vs] 40)) #[.int .i64 kind, .int .i64 n, .string x] 47
  rw [← hV] at k0 k1 k2
  simp only [World.size_alloc] at k1 k2
  rw [← hX] at k0 k1 k2 b
  exact (k0.stay.and (k1.stay.and k2.stay)).and (below_stay b (by rw [hX] at b ⊢; exact b.size))
 rw [← hX] at HCT ⊢
 clear hr hhn hbn hln hlo htl htn hfi
 subst eh eb eg eo
 obtain ⟨y0, y1, y2, y3, y4, y5, y6⟩ := HS.out.now.1.1.sevenc
 go_enter Tryz.func29, Tryz.ntmps29
 go_upto_region 1 with fail
 rw [← hV]
 rw [← hX]
 clear hV hX
 go_wp2_with fail
 refine (HCT.out V HS.out.now.2).mono ?_
 rintro e w1 ⟨rfl, b1⟩
 have HS1 := Stay.go HS b1
 clear b1 HS HCT y0 y1 y2 y3 y4 y5 y6
 have BW : Hid (Below X w w1) := HS1.out.now.2
 by_cases h0 : C = 0
 case neg =>
  have he : Hid (E = C) := by show E = _; rw [HE.out, if_neg h0]
  clear HE HS1 HCV HCA
  go_wp2
  go_ret
  exact ⟨by rw [he.out]; rfl, BW.out⟩
 have HE2 : Hid (E = if D = 0 then A else D) := by show E = _; rw [HE.out, if_pos h0]
 subst h0
 obtain ⟨z0, z1, z2, z3, z4, z5⟩ := HS1.out.now.1.2.1.sixv
 clear HE BW
 go_wp2_with fail
 refine (HCV.out w1).mono ?_
 rintro e w2 ⟨rfl, b2⟩
 have HS2 := Stay.go HS1 b2
 clear b2 HS1 HCV z0 z1 z2 z3 z4 z5
 have BW : Hid (Below X w w2) := HS2.out.now.2
 by_cases h0 : D = 0
 case neg =>
  have he : Hid (E = D) := by show E = _; rw [HE2.out, if_neg h0]
  clear HE2 HS2 HCA
  go_wp2
  go_ret
  exact ⟨by rw [he.out]; rfl, BW.out⟩
 have he : Hid (E = A) := by show E = _; rw [HE2.out, if_pos h0]
 subst h0
 obtain ⟨z0, z1, z2⟩ := HS2.out.now.1.2.2.three
 have hXs := HS2.out.now.1.1.lt
 clear HE2 HS2
 go_wp2_with fail
 refine (HCA.out w2).mono ?_
 rintro e w3 ⟨rfl, b3⟩
 have BW3 : Hid (Below X w w3) := BW.out.trans (b3.mono (Nat.le_of_lt hXs))
 clear b3 z0 z1 z2
 go_wp2
 go_ret
 exact ⟨by rw [he.out]; rfl, BW3.out⟩
set_option maxHeartbeats 16000000 in
set_option maxRecDepth 100000 in
theorem deskDo_any (T : Tr) (v : Vw) (kind n : Int) (x : ByteArray) (hv bv gv ov : Value) (w : World) (hr : TrIn (fun _ => True) w hv bv gv ov T) :
  Calls Tryz.prog 9 #[.agg #[.int .i64 T.last, .int .i64 T.next, hv, bv, .int .i64 T.first, gv, ov], .agg #[.int .i64 v.m, .int .i64 v.g, .int .i64 v.f, .int .i64 v.l, .int .i64 v.t, .int .i64 v.s], .agg #[.int .i64 kind, .int .i64 n, .string x]] w fun e w' => ∃ ha1 hn1 hc1 oa1 on1 oc1 ga1 gn1 gc1 pa1 pn1 pc1 va vn vc, e = .returned (.tuple #[.agg #[.int .i64 (doA T v kind n x).1.last, .int .i64 (doA T v kind n x).1.next, .slice ha1 hn1 hc1, .slice oa1 on1 oc1, .int .i64 (doA T v kind n x).1.first, .slice ga1 gn1 gc1, .slice pa1 pn1 pc1], .agg #[.int .i64 (doA T v kind n x).2.1.m, .int .i64 (doA T v kind n x).2.1.g, .int .i64 (doA T v kind n x).2.1.f, .int .i64 (doA T v kind n x).2.1.l, .int .i64 (doA T v kind n x).2.1.t, .int .i64 (doA T v kind n x).2.1.s], .slice va vn vc, .int .i64 (doA T v kind n x).2.2.2]) ∧
   TrIn (fun g => w.heap.size ≤ g) w' (.slice ha1 hn1 hc1) (.slice oa1 on1 oc1) (.slice ga1 gn1 gc1) (.slice pa1 pn1 pc1) (doA T v kind n x).1 ∧ vn = (doA T v kind n x).2.2.1.length ∧ w'.ownsRow w.heap.size 63 6 (.slice va vn vc) vn (pkCells (doA T v kind n x).2.2.1) ∧ Below w.heap.size w w' := by
 obtain ⟨R, hR⟩ : ∃ R, R = doA T v kind n x := ⟨_, rfl⟩
 obtain ⟨E, hE⟩ : ∃ E, E = dchk T v kind n x := ⟨_, rfl⟩
 rw [← hR]
 obtain ⟨X, hX⟩ : ∃ x, x = w.heap.size := ⟨_, rfl⟩
 have hrX : TrIn (fun g => g < X) w hv bv gv ov T := hr.mono fun g h _ => by rw [hX]; exact h
 have HRE : Hid (¬ E = 0 → R = badDo E) := fun h => by
  rw [hR]; unfold doA
  unfold dchk at hE
  by_cases h1 : T.chk = 0
  ·rw [if_pos h1] at hE ⊢
   by_cases h2 : v.chk = 0
   ·rw [if_pos h2] at hE ⊢
    unfold doR; rw [if_neg (by rw [← hE]; exact h), hE]
   ·rw [if_neg h2] at hE ⊢; rw [hE]
  ·rw [if_neg h1] at hE ⊢; rw [hE]
 have HRG : Hid (E = 0 → T.chk = 0 ∧ v.chk = 0 ∧ actE kind n x = 0 ∧ R = doR T v kind n x) := fun h => by
  rw [hE] at h
  unfold dchk at h
  by_cases h1 : T.chk = 0
  ·rw [if_pos h1] at h
   by_cases h2 : v.chk = 0
   ·rw [if_pos h2] at h
    refine ⟨h1, h2, h, ?_⟩
    rw [hR]; unfold doA; rw [if_pos h1, if_pos h2]
   ·rw [if_neg h2] at h; exact absurd h h2
  ·rw [if_neg h1] at h; exact absurd h h1
 have HRB : Hid (¬ R.2.2.2 = 0 → R = badDo R.2.2.2) := fun h => by
  obtain ⟨b1, b2, b3⟩ := do_bad (T := T) (v := v) (kind := kind) (n := n) (x := x) (by rw [← hR]; exact h)
  rw [← hR] at b1 b2 b3
  unfold badDo
  exact Prod.ext b1 (Prod.ext b2 (Prod.ext b3 rfl))
 have HCK : Hid (∀ U, Below X w U → Calls Tryz.prog 29 #[.agg #[.int .i64 T.last, .int .i64 T.next, hv, bv, .int .i64 T.first, gv, ov], .agg #[.int .i64 v.m, .int .i64 v.g, .int .i64 v.f, .int .i64 v.l, .int .i64 v.t, .int .i64 v.s], .agg #[.int .i64 kind, .int .i64 n, .string x]] U fun e w' => e = .returned (.int .i64 E) ∧ Below U.heap.size U w') := fun U hU => by
  rw [hE]; exact deskCheck_any T v kind n x hv bv gv ov U (hr.below (by rw [← hX]; exact hU))
 have HCL : Hid (E = 0 → ∀ U, Below X w U → Calls Tryz.prog 30 #[.agg #[.int .i64 T.last, .int .i64 T.next, hv, bv, .int .i64 T.first, gv, ov]] U fun e w' => ∃ ha1 hn1 hc1 oa1 on1 oc1 ga1 gn1 gc1 pa1 pn1 pc1, e = .returned (.agg #[.int .i64 T.last, .int .i64 T.next, .slice ha1 hn1 hc1, .slice oa1 on1 oc1, .int .i64 T.first, .slice ga1 gn1 gc1, .slice pa1 pn1 pc1]) ∧ Hid (TrIn (fun g => U.heap.size ≤ g) w' (.slice ha1 hn1 hc1) (.slice oa1 on1 oc1) (.slice ga1 gn1 gc1) (.slice pa1 pn1 pc1) T) ∧ Below U.heap.size U w') := fun h U hU => by
  refine (cloneTrack_any _ T hv bv gv ov U (hr.below (by rw [← hX]; exact hU)) (HRG.out h).1).mono ?_
  rintro e w' ⟨x1, x2, x3, x4, rfl, q, b⟩
  obtain ⟨a1, c1, a2, c2, a3, c3, a4, c4, e1, e2, e3, e4⟩ := q.slices
  subst e1 e2 e3 e4
  exact ⟨_, _, _, _, _, _, _, _, _, _, _, _, rfl, q, b⟩
 obtain ⟨v0, hv0⟩ : ∃ v0, v0 = v := ⟨_, rfl⟩
 obtain ⟨ha, hc, bo, bc, ga, gc, oa, oc, eh, eb, eg, eo⟩ := hr.slices
 obtain ⟨hn, hhn⟩ : ∃ x, x = T.h.length := ⟨_, rfl⟩
 obtain ⟨bn, hbn⟩ : ∃ x, x = T.o.length := ⟨_, rfl⟩
 obtain ⟨ln, hln⟩ : ∃ x, x = T.L.length := ⟨_, rfl⟩
 obtain ⟨lo, hlo⟩ : ∃ x, x = T.O.length := ⟨_, rfl⟩
 rw [← hhn] at eh
 rw [← hbn] at eb
 rw [← hln] at eg
 rw [← hlo] at eo
 obtain ⟨tl, htl⟩ : ∃ x, x = T.last := ⟨_, rfl⟩
 obtain ⟨tn, htn⟩ : ∃ x, x = T.next := ⟨_, rfl⟩
 obtain ⟨first, hfi⟩ : ∃ x, x = T.first := ⟨_, rfl⟩
 obtain ⟨vm, vg, vf, vl, vt, vs⟩ := v
 simp only
 simp only at HCK
 rw [← htl, ← htn, ← hfi] at HCK HCL ⊢
 have HTT : Hid (tl = T.last ∧ tn = T.next ∧ first = T.first ∧ v0 = ⟨vm, vg, vf, vl, vt, vs⟩) := ⟨htl, htn, hfi, hv0⟩
 rw [← hv0] at HRG
 obtain ⟨V, hV⟩ : ∃ V, V = ((((w.alloc (.cells #[.int .i64 tl, .int .i64 tn, .slice ha hn hc, .slice bo bn bc, .int .i64 first, .slice ga ln gc, .slice oa lo oc] 34)).alloc (.cells #[.int .i64 vm, .int .i64 vg, .int .i64 vf, .int .i64 vl, .int .i64 vt, .int .i64 vs] 40)).alloc (.cells #[.int .i64 kind, .int .i64 n, .string x] 47)).alloc (.cells #[.int .i64 0, .int .i64 0, .slice none 0 0, .slice none 0 0, .int .i64 0, .slice none 0 0, .slice none 0 0] 34)).alloc (.cells #[.int .i64 0, .int .i64 0, .int .i64 0, .int .i64 0, .int .i64 0, .int .i64 0] 40) := ⟨_, rfl⟩
 have HS : Hid (Stay V (fun U => ((Blk U X #[.int .i64 tl, .int .i64 tn, .slice ha hn hc, .slice bo bn bc, .int .i64 first, .slice ga ln gc, .slice oa lo oc] 34 ∧ (Blk U (X + 1) #[.int .i64 vm, .int .i64 vg, .int .i64 vf, .int .i64 vl, .int .i64 vt, .int .i64 vs] 40 ∧ Blk U (X + 1 + 1) #[.int .i64 kind, .int .i64 n, .string x] 47)) ∧ (Blk U (X + 1 + 1 + 1) #[.int .i64 0, .int .i64 0, .slice none 0 0, .slice none 0 0, .int .i64 0, .slice none 0 0, .slice none 0 0] 34 ∧ Blk U (X + 1 + 1 + 1 + 1) #[.int .i64 0, .int .i64 0, .int .i64 0, .int .i64 0, .int .i64 0, .int .i64 0] 40)) ∧ Below X w U)) := by
  have b : Below w.heap.size w V := by rw [hV]; exact (((((Below.refl _ w).alloc (Nat.le_refl _) _).alloc (by simp) _).alloc (by simp; omega) _).alloc (by simp; omega) _).alloc (by simp; omega) _
  have k0 := ((((Blk.new w #[.int .i64 tl, .int .i64 tn, .slice ha hn hc, .slice bo bn bc, .int .i64 first, .slice ga ln gc, .slice oa lo oc] 34).alloc (.cells #[.int .i64 vm, .int .i64 vg, .int .i64 vf, .int .i64 vl, .int .i64 vt, .int .i64 vs] 40)).alloc (.cells #[.int .i64 kind, .int .i64 n, .string x] 47)).alloc (.cells #[.int .i64 0, .int .i64 0, .slice none 0 0, .slice none 0 0, .int .i64 0, .slice none 0 0, .slice none 0 0] 34)).alloc (.cells #[.int .i64 0, .int .i64 0, .int .i64 0, .int .i64 0, .int .i64 0, .int .i64 0] 40)
  have k1 := (((Blk.new (w.alloc (.cells #[.int .i64 tl, .int .i64 tn, .slice ha hn hc, .slice bo bn bc, .int .i64 first, .slice ga ln gc, .slice oa lo oc] 34)) #[.int .i64 vm, .int .i64 vg, .int .i64 vf, .int .i64 vl, .int .i64 vt, .int .i64 vs] 40).alloc (.cells #[.int .i64 kind, .int .i64 n, .string x] 47)).alloc (.cells #[.int .i64 0, .int .i64 0, .slice none 0 0, .slice none 0 0, .int .i64 0, .slice none 0 0, .slice none 0 0] 34)).alloc (.cells #[.int .i64 0, .int .i64 0, .int .i64 0, .int .i64 0, .int .i64 0, .int .i64 0] 40)
  have k2 := ((Blk.new ((w.alloc (.cells #[.int .i64 tl, .int .i64 tn, .slice ha hn hc, .slice bo bn bc, .int .i64 first, .slice ga ln gc, .slice oa lo oc] 34)).alloc (.cells #[.int .i64 vm, .int .i64 vg, .int .i64 vf, .int .i64 vl, .int .i64 vt, .int .i64 vs] 40)) #[.int .i64 kind, .int .i64 n, .string x] 47).alloc (.cells #[.int .i64 0, .int .i64 0, .slice none 0 0, .slice none 0 0, .int .i64 0, .slice none 0 0, .slice none 0 0] 34)).alloc (.cells #[.int .i64 0, .int .i64 0, .int .i64 0, .int .i64 0, .int .i64 0, .int .i64 0] 40)
  have k3 := (Blk.new (((w.alloc (.cells #[.int .i64 tl, .int .i64 tn, .slice ha hn hc, .slice bo bn bc, .int .i64 first, .slice ga ln gc, .slice oa lo oc] 34)).alloc (.cells #[.int .i64 vm, .int .i64 vg, .int .i64 vf, .int .i64 vl, .int .i64 vt, .int .i64 vs] 40)).alloc (.cells #[.int .i64 kind, .int .i64 n, .string x] 47)) #[.int .i64 0, .int .i64 0, .slice none 0 0, .slice none 0 0, .int .i64 0, .slice none 0 0, .slice none 0 0] 34).alloc (.cells #[.int .i64 0, .int .i64 0, .int .i64 0, .int .i64 0, .int .i64 0, .int .i64 0] 40)
  have k4 := Blk.new ((((w.alloc (.cells #[.int .i64 tl, .int .i64 tn, .slice ha hn hc, .slice bo bn bc, .int .i64 first, .slice ga ln gc, .slice oa lo oc] 34)).alloc (.cells #[.int .i64 vm, .int .i64 vg, .int .i64 vf, .int .i64 vl, .int .i64 vt, .int .i64 vs] 40)).alloc (.cells #[.int .i64 kind, .int .i64 n, .string x] 47)).alloc (.cells #[.int .i64 0, .int .i64 0, .slice none 0 0, .slice none 0 0, .int .i64 0, .slice none 0 0, .slice none 0 0] 34)) #[.int .i64 0, .int .i64 0, .int .i64 0, .int .i64 0, .int .i64 0, .int .i64 0] 40
  rw [← hV] at k0 k1 k2 k3 k4
  simp only [World.size_alloc] at k1 k2 k3 k4
  rw [← hX] at k0 k1 k2 k3 k4 b
  exact ((k0.stay.and (k1.stay.and k2.stay)).and (k3.stay.and k4.stay)).and (below_stay b (by rw [hX] at b ⊢; exact b.size))
 have HXe : Hid (X = w.heap.size) := hX
 rw [← hX]
 clear hr hrX hR hE hhn hbn hln hlo htl htn hfi hv0
 subst eh eb eg eo
 obtain ⟨y0, y1, y2, y3, y4, y5, y6⟩ := HS.out.now.1.1.1.sevenc
 obtain ⟨z0, z1, z2, z3, z4, z5⟩ := HS.out.now.1.1.2.1.sixv
 obtain ⟨a0, a1, a2⟩ := HS.out.now.1.1.2.2.three
 go_enter Tryz.func9, Tryz.ntmps9
 go_upto_region 1 with fail
 rw [← hV]
 rw [← hX]
 clear hV hX
 go_wp2_with fail
 refine (HCK.out V HS.out.now.2).mono ?_
 rintro e w1 ⟨rfl, b1⟩
 have HS1 := Stay.go HS b1
 clear b1 HS HCK y0 y1 y2 y3 y4 y5 y6 z0 z1 z2 z3 z4 z5 a0 a1 a2
 by_cases h0 : E = 0
 case neg =>
  have hRz : Hid (R = badDo E) := HRE.out h0
  have BW : Below X w w1 := HS1.out.now.2
  have KT : Blk w1 (X + 1 + 1 + 1) #[.int .i64 0, .int .i64 0, .slice none 0 0, .slice none 0 0, .int .i64 0, .slice none 0 0, .slice none 0 0] 34 := HS1.out.now.1.2.1
  have KV : Blk w1 (X + 1 + 1 + 1 + 1) #[.int .i64 0, .int .i64 0, .int .i64 0, .int .i64 0, .int .i64 0, .int .i64 0] 40 := HS1.out.now.1.2.2
  clear HRE HRG HRB HCL HS1
  obtain ⟨y0, y1, y2, y3, y4, y5, y6⟩ := KT.sevenc
  obtain ⟨z0, z1, z2, z3, z4, z5⟩ := KV.sixv
  have fT := KT.free
  have fV := KV.free
  have lT := KT.lt
  have lV := KV.lt
  obtain ⟨WA, hWA⟩ : ∃ U, U = (((((((w1.setCell ⟨X + 1 + 1 + 1, 0, none⟩ (.int .i64 0)).setCell ⟨X + 1 + 1 + 1, 1, none⟩ (.int .i64 0)).setCell ⟨X + 1 + 1 + 1, 2, none⟩ (.slice none 0 0)).setCell ⟨X + 1 + 1 + 1, 3, none⟩ (.slice none 0 0)).setCell ⟨X + 1 + 1 + 1, 4, none⟩ (.int .i64 0)).setCell ⟨X + 1 + 1 + 1, 5, none⟩ (.slice none 0 0)).setCell ⟨X + 1 + 1 + 1, 6, none⟩ (.slice none 0 0)) := ⟨_, rfl⟩
  have KTA : Blk WA (X + 1 + 1 + 1) #[.int .i64 0, .int .i64 0, .slice none 0 0, .slice none 0 0, .int .i64 0, .slice none 0 0, .slice none 0 0] 34 := by
   have := (((((((KT.set 0 (.int .i64 0)).set 1 (.int .i64 0)).set 2 (.slice none 0 0)).set 3 (.slice none 0 0)).set 4 (.int .i64 0)).set 5 (.slice none 0 0)).set 6 (.slice none 0 0))
   rw [hWA]; simpa using this
  have KVA : Blk WA (X + 1 + 1 + 1 + 1) #[.int .i64 0, .int .i64 0, .int .i64 0, .int .i64 0, .int .i64 0, .int .i64 0] 40 := by
   rw [hWA]; exact (((((((KV.other (a := ⟨X + 1 + 1 + 1, 0, none⟩) (by simp) _).other (a := ⟨X + 1 + 1 + 1, 1, none⟩) (by simp) _).other (a := ⟨X + 1 + 1 + 1, 2, none⟩) (by simp) _).other (a := ⟨X + 1 + 1 + 1, 3, none⟩) (by simp) _).other (a := ⟨X + 1 + 1 + 1, 4, none⟩) (by simp) _).other (a := ⟨X + 1 + 1 + 1, 5, none⟩) (by simp) _).other (a := ⟨X + 1 + 1 + 1, 6, none⟩) (by simp) _)
  have BWA : Below X w WA := by rw [hWA]; exact (((((((BW.setCell (p := ⟨X + 1 + 1 + 1, 0, none⟩) (by show X ≤ X + 1 + 1 + 1; omega) _).setCell (p := ⟨X + 1 + 1 + 1, 1, none⟩) (by show X ≤ X + 1 + 1 + 1; omega) _).setCell (p := ⟨X + 1 + 1 + 1, 2, none⟩) (by show X ≤ X + 1 + 1 + 1; omega) _).setCell (p := ⟨X + 1 + 1 + 1, 3, none⟩) (by show X ≤ X + 1 + 1 + 1; omega) _).setCell (p := ⟨X + 1 + 1 + 1, 4, none⟩) (by show X ≤ X + 1 + 1 + 1; omega) _).setCell (p := ⟨X + 1 + 1 + 1, 5, none⟩) (by show X ≤ X + 1 + 1 + 1; omega) _).setCell (p := ⟨X + 1 + 1 + 1, 6, none⟩) (by show X ≤ X + 1 + 1 + 1; omega) _)
  obtain ⟨WB, hWB⟩ : ∃ U, U = ((((((WA.setCell ⟨X + 1 + 1 + 1 + 1, 0, none⟩ (.int .i64 0)).setCell ⟨X + 1 + 1 + 1 + 1, 1, none⟩ (.int .i64 0)).setCell ⟨X + 1 + 1 + 1 + 1, 2, none⟩ (.int .i64 0)).setCell ⟨X + 1 + 1 + 1 + 1, 3, none⟩ (.int .i64 0)).setCell ⟨X + 1 + 1 + 1 + 1, 4, none⟩ (.int .i64 0)).setCell ⟨X + 1 + 1 + 1 + 1, 5, none⟩ (.int .i64 0)) := ⟨_, rfl⟩
  have KTB : Hid (Blk WB (X + 1 + 1 + 1) #[.int .i64 0, .int .i64 0, .slice none 0 0, .slice none 0 0, .int .i64 0, .slice none 0 0, .slice none 0 0] 34) := by
   rw [hWB]; exact ((((((KTA.other (a := ⟨X + 1 + 1 + 1 + 1, 0, none⟩) (by simp) _).other (a := ⟨X + 1 + 1 + 1 + 1, 1, none⟩) (by simp) _).other (a := ⟨X + 1 + 1 + 1 + 1, 2, none⟩) (by simp) _).other (a := ⟨X + 1 + 1 + 1 + 1, 3, none⟩) (by simp) _).other (a := ⟨X + 1 + 1 + 1 + 1, 4, none⟩) (by simp) _).other (a := ⟨X + 1 + 1 + 1 + 1, 5, none⟩) (by simp) _)
  have KVB : Hid (Blk WB (X + 1 + 1 + 1 + 1) #[.int .i64 0, .int .i64 0, .int .i64 0, .int .i64 0, .int .i64 0, .int .i64 0] 40) := by
   have := ((((((KVA.set 0 (.int .i64 0)).set 1 (.int .i64 0)).set 2 (.int .i64 0)).set 3 (.int .i64 0)).set 4 (.int .i64 0)).set 5 (.int .i64 0))
   rw [hWB]; simpa [Hid] using this
  have BWB : Hid (Below X w WB) := by rw [hWB]; exact ((((((BWA.setCell (p := ⟨X + 1 + 1 + 1 + 1, 0, none⟩) (by show X ≤ X + 1 + 1 + 1 + 1; omega) _).setCell (p := ⟨X + 1 + 1 + 1 + 1, 1, none⟩) (by show X ≤ X + 1 + 1 + 1 + 1; omega) _).setCell (p := ⟨X + 1 + 1 + 1 + 1, 2, none⟩) (by show X ≤ X + 1 + 1 + 1 + 1; omega) _).setCell (p := ⟨X + 1 + 1 + 1 + 1, 3, none⟩) (by show X ≤ X + 1 + 1 + 1 + 1; omega) _).setCell (p := ⟨X + 1 + 1 + 1 + 1, 4, none⟩) (by show X ≤ X + 1 + 1 + 1 + 1; omega) _).setCell (p := ⟨X + 1 + 1 + 1 + 1, 5, none⟩) (by show X ≤ X + 1 + 1 + 1 + 1; omega) _)
  obtain ⟨v0, v1, v2, v3, v4, v5⟩ := KVA.sixv
  have fA := KVA.free
  have lA := KVA.lt
  clear KTA KVA BWA KT KV BW
  go_upto_region 3 with fail
  go_wp2
  rw [← hWA, ← hWB]
  clear hWA hWB y0 y1 y2 y3 y4 y5 y6 z0 z1 z2 z3 z4 z5 fT fV lT lV v0 v1 v2 v3 v4 v5 fA lA
  obtain ⟨y0, y1, y2, y3, y4, y5, y6⟩ := KTB.out.sevenc
  obtain ⟨z0, z1, z2, z3, z4, z5⟩ := KVB.out.sixv
  refine bodyPost_ret (v := .tuple #[.agg #[.int .i64 0, .int .i64 0, .slice none 0 0, .slice none 0 0, .int .i64 0, .slice none 0 0, .slice none 0 0], .agg #[.int .i64 0, .int .i64 0, .int .i64 0, .int .i64 0, .int .i64 0, .int .i64 0], .slice none 0 0, .int .i64 (E)]) (by simp [results, Tryz.results9, go_sem, y0, y1, y2, y3, y4, y5, y6, z0, z1, z2, z3, z4, z5]) rfl ?_
  rw [hRz.out]
  exact ⟨none, 0, 0, none, 0, 0, none, 0, 0, none, 0, 0, none, 0, 0, rfl, TrIn.zero _ _, rfl, World.ownsRow_nil _ _ _ _, BWB.out⟩
 obtain ⟨g1, g2, g3, g4⟩ := HRG.out h0
 have HG : Hid (T.chk = 0 ∧ v0.chk = 0 ∧ actE kind n x = 0 ∧ R = doR T v0 kind n x) := ⟨g1, g2, g3, g4⟩
 have HCL2 : Hid _ := HCL.out h0
 clear HRE HRG HCL g1 g2 g3 g4
 subst h0
 go_upto_region 4 with fail
 refine region_main (by kernel_rfl) (by kernel_rfl) [.quiet (.agg #[.int .i64 vm, .int .i64 vg, .int .i64 vf, .int .i64 vl, .int .i64 vt, .int .i64 vs]), .quiet (.agg #[.int .i64 tl, .int .i64 tn, .slice ha hn hc, .slice bo bn bc, .int .i64 first, .slice ga ln gc, .slice oa lo oc]), .main, .fin (bldD vm vg vf vl vt vs), .box 77 #[.int .i64 0, .int .i64 0, .int .i64 0, .int .i64 0, .int .i64 0, .int .i64 0, .int .i64 0, .int .i64 0, .slice none 0 0, .slice none 0 0, .int .i64 0, .slice none 0 0, .slice none 0 0, .slice none 0 0], .put 4 (fun r => aggC (bldD vm vg vf vl vt vs r))] 2 (by kernel_rfl)
  (fun S r w' => ∃ ha1 hn1 hc1 oa1 on1 oc1 ga1 gn1 gc1 pa1 pn1 pc1, r = .agg #[.int .i64 tl, .int .i64 tn, .slice ha1 hn1 hc1, .slice oa1 on1 oc1, .int .i64 first, .slice ga1 gn1 gc1, .slice pa1 pn1 pc1] ∧ TrIn (fun g => S g ∧ w1.heap.size ≤ g) w' (.slice ha1 hn1 hc1) (.slice oa1 on1 oc1) (.slice ga1 gn1 gc1) (.slice pa1 pn1 pc1) T) ?loc ?step ?fin
 case loc =>
  rintro S r w2 w3 ⟨ha1, hn1, hc1, oa1, on1, oc1, ga1, gn1, gc1, pa1, pn1, pc1, rfl, h1⟩ hs hsame
  exact ⟨ha1, hn1, hc1, oa1, on1, oc1, ga1, gn1, gc1, pa1, pn1, pc1, rfl, h1.to ⟨hs, fun g hg hS => hsame g hS.1 hg⟩ (fun _ _ h => h)⟩
 case step =>
  intro i o ho a' w' r hb hfree hvals
  have f3 : a'.eval (.tmp 3) = .pointer (some ⟨X, 0, none⟩) := (hfree 3 (by kernel_rfl)).trans rfl
  have f4 : a'.eval (.tmp 4) = .pointer (some ⟨X + 1, 0, none⟩) := (hfree 4 (by kernel_rfl)).trans rfl
  obtain ⟨y0, y1, y2, y3, y4, y5, y6⟩ := (HS1.out w' hb).1.1.1.sevenc
  obtain ⟨z0, z1, z2, z3, z4, z5⟩ := (HS1.out w' hb).1.1.2.1.sixv
  match i, ho with
  | 0, ho =>
   simp at ho; subst ho
   show (execOp a'.eval _).run _ w' = .ok (.value _) w'
   generalize a'.eval = ρ at *
   simp [execOp, go_sem, f4, z0, z1, z2, z3, z4, z5]
  | 1, ho =>
   simp at ho; subst ho
   show (execOp a'.eval _).run _ w' = .ok (.value _) w'
   generalize a'.eval = ρ at *
   simp [execOp, go_sem, f3, y0, y1, y2, y3, y4, y5, y6]
  | 2, ho =>
   simp at ho; subst ho
   have e23 : a'.eval (.tmp 23) = .agg #[.int .i64 tl, .int .i64 tn, .slice ha hn hc, .slice bo bn bc, .int .i64 first, .slice ga ln gc, .slice oa lo oc] := hvals 1 _ (by kernel_rfl) rfl
   have ef : a'.eval (.func 30) = .func (.func 30) #[] #[] := rfl
   show ∃ f args, (execOp a'.eval _).run _ w' = .ok (.enter f args) w' ∧ _
   generalize a'.eval = ρ at *
   refine ⟨30, #[.agg #[.int .i64 tl, .int .i64 tn, .slice ha hn hc, .slice bo bn bc, .int .i64 first, .slice ga ln gc, .slice oa lo oc]], by simp [execOp, go_sem, e23, ef], ?_⟩
   refine (HCL2.out w' (HS1.out w' hb).2).mono ?_
   rintro e w'' ⟨ha1, hn1, hc1, oa1, on1, oc1, ga1, gn1, gc1, pa1, pn1, pc1, rfl, h1, hb4⟩
   exact ⟨_, rfl, ⟨ha1, hn1, hc1, oa1, on1, oc1, ga1, gn1, gc1, pa1, pn1, pc1, rfl, h1.out.mono (fun g hl hg => ⟨⟨hl, .inr hg⟩, (by have := hb.size; omega)⟩)⟩, hb4⟩
  | 3, ho =>
   simp at ho; subst ho
   have e22 : a'.eval (.tmp 22) = .agg #[.int .i64 vm, .int .i64 vg, .int .i64 vf, .int .i64 vl, .int .i64 vt, .int .i64 vs] := hvals 0 _ (by kernel_rfl) rfl
   have e24 : a'.eval (.tmp 24) = r := hvals 2 _ (by kernel_rfl) rfl
   show ∀ S, _ → (execOp a'.eval _).run _ w' = .ok (.value _) w'
   rintro S ⟨ha1, hn1, hc1, oa1, on1, oc1, ga1, gn1, gc1, pa1, pn1, pc1, rfl, _⟩
   generalize a'.eval = ρ at *
   simp [execOp, go_sem, e22, e24, bldD, aggC]
  | 4, ho =>
   simp at ho; subst ho
   show (execOp a'.eval _).run _ w' = .ok (.value _) _
   generalize a'.eval = ρ at *
   simp [execOp, go_sem]
  | 5, ho =>
   simp at ho; subst ho
   have e25 : a'.eval (.tmp 25) = (bldD vm vg vf vl vt vs) r := hvals 3 _ (by kernel_rfl) rfl
   show ∀ S, _ → ∀ t z g C, _ → _ → _ → _ → ∃ w'', (execOp a'.eval _).run _ w' = .ok .skip w'' ∧ _
   rintro S ⟨ha1, hn1, hc1, oa1, on1, oc1, ga1, gn1, gc1, pa1, pn1, pc1, rfl, _⟩ t z g C hz hC hs (eb : a'.eval (.tmp 11) = _)
   cases hz
   obtain ⟨u0, u1, u2, u3, u4, u5, u6, u7, u8, u9, u10, u11, u12, u13, q0, q1, q2, q3, q4, q5, q6, q7, q8, q9, q10, q11, q12, q13⟩ := dk_cells14 hC hs
   have p0 := hC.free 0
   have p1 := hC.free 1
   have p2 := hC.free 2
   have p3 := hC.free 3
   have p4 := hC.free 4
   have p5 := hC.free 5
   have p6 := hC.free 6
   have p7 := hC.free 7
   have p8 := hC.free 8
   have p9 := hC.free 9
   have p10 := hC.free 10
   have p11 := hC.free 11
   have p12 := hC.free 12
   have p13 := hC.free 13
   obtain ⟨m1, m2, m3⟩ := dk_set14 hC hs (.int .i64 vm) (.int .i64 vg) (.int .i64 vf) (.int .i64 vl) (.int .i64 vt) (.int .i64 vs) (.int .i64 tl) (.int .i64 tn) (.slice ha1 hn1 hc1) (.slice oa1 on1 oc1) (.int .i64 first) (.slice ga1 gn1 gc1) (.slice pa1 pn1 pc1) (.slice none 0 0)
   simp only [bldD, aggC] at e25
   generalize a'.eval = ρ at *
   have hB := fourteen_below (A := g) (Below.refl 0 w') (Nat.zero_le g) (.int .i64 vm) (.int .i64 vg) (.int .i64 vf) (.int .i64 vl) (.int .i64 vt) (.int .i64 vs) (.int .i64 tl) (.int .i64 tn) (.slice ha1 hn1 hc1) (.slice oa1 on1 oc1) (.int .i64 first) (.slice ga1 gn1 gc1) (.slice pa1 pn1 pc1) (.slice none 0 0)
   refine ⟨_, ?_, m1, m2, rfl, m3, hB.os, hB.tape, hB.output⟩
   clear m1 m2 m3 hB
   simp [execOp, go_sem, e25, eb, q0, q1, q2, q3, q4, q5, q6, q7, q8, q9, q10, q11, q12, q13, p0, p1, p2, p3, p4, p5, p6, p7, p8, p9, p10, p11, p12, p13]
  | i + 6, ho => simp at ho
 case fin =>
  rintro r gs Sr W hb ⟨ha1, hn1, hc1, oa1, on1, oc1, ga1, gn1, gc1, pa1, pn1, pc1, rfl, h1⟩ hS hbox hap
  obtain ⟨p1, p2, C, p3, p4⟩ := hbox 4 _ _ (by decide) rfl
  have p5 := p4 5 _ (by decide) rfl
  subst p5
  simp only [putK, Kd.out, Act.put, List.setIfInBounds_toArray, List.set_cons_succ, List.set_cons_zero]
  obtain ⟨M, hM⟩ : ∃ p, p = gs 4 := ⟨_, rfl⟩
  have KM : Hid (Blk W (gs 4) #[.int .i64 vm, .int .i64 vg, .int .i64 vf, .int .i64 vl, .int .i64 vt, .int .i64 vs, .int .i64 tl, .int .i64 tn, .slice ha1 hn1 hc1, .slice oa1 on1 oc1, .int .i64 first, .slice ga1 gn1 gc1, .slice pa1 pn1 pc1, .slice none 0 0] 77) := p3
  have HTM : Hid (TrIn (fun b => (X ≤ b ∧ b ≠ X + 1 + 1 + 1 ∧ b ≠ X + 1 + 1 + 1 + 1) ∧ b ≠ M) W (.slice ha1 hn1 hc1) (.slice oa1 on1 oc1) (.slice ga1 gn1 gc1) (.slice pa1 pn1 pc1) T) := h1.mono fun b _ h => ⟨⟨by have := HS1.out.now.1.2.2.lt; omega, by have := HS1.out.now.1.2.2.lt; omega, by have := HS1.out.now.1.2.2.lt; omega⟩, fun e => p2 (by rw [← hM, ← e]; exact h.1)⟩
  rw [← hM] at KM p1
  rw [← hM]
  have HS4 := Stay.go HS1 hb
  have hX1 := HS1.out.now.1.1.1.lt
  have hX5 := HS1.out.now.1.2.2.lt
  have hMX : X ≤ M := by omega
  have HMN : Hid (M ≠ X + 1 + 1 + 1 ∧ M ≠ X + 1 + 1 + 1 + 1) := ⟨by omega, by omega⟩
  clear hM h1 hS hbox hap p1 p2 p3 p4 hb HCL2 HS1
  have HWs : Hid (X ≤ W.heap.size) := by have := KM.out.lt; show X ≤ _; omega
  have HDO : Hid (Calls Tryz.prog 31 #[.pointer (some ⟨M, 0, none⟩), .agg #[.int .i64 kind, .int .i64 n, .string x]] W fun e w' => e = .returned (.int .i64 R.2.2.2) ∧ (R.2.2.2 = 0 → DkQ (fun b => X ≤ b ∧ b ≠ X + 1 + 1 + 1 ∧ b ≠ X + 1 + 1 + 1 + 1) M W.heap.size w' R) ∧ Kept [M] W w') := by
   have q := dkDo_any (fun b => X ≤ b ∧ b ≠ X + 1 + 1 + 1 ∧ b ≠ X + 1 + 1 + 1 + 1) M v0 T kind n x (.slice ha1 hn1 hc1) (.slice oa1 on1 oc1) (.slice ga1 gn1 gc1) (.slice pa1 pn1 pc1) W (by
    have := KM.out
    rw [HTT.out.1, HTT.out.2.1, HTT.out.2.2.1] at this
    rw [HTT.out.2.2.2]
    exact this) HTM.out (fun b hb => by have := HS4.out.now.1.2.2.lt; exact ⟨by omega, by omega, by omega⟩) HG.out.1 HG.out.2.1 HG.out.2.2.1
   rw [← HG.out.2.2.2] at q
   exact q
  obtain ⟨a0, a1, a2⟩ := HS4.out.now.1.1.2.2.three
  clear HG KM HTM
  go_wp2_with fail
  refine HDO.out.mono ?_
  rintro e w5 ⟨rfl, k1, k2⟩
  have KT5 : Blk w5 (X + 1 + 1 + 1) #[.int .i64 0, .int .i64 0, .slice none 0 0, .slice none 0 0, .int .i64 0, .slice none 0 0, .slice none 0 0] 34 := HS4.out.now.1.2.1.kept k2 (by simp; exact fun h => HMN.out.1 h.symm)
  have KV5 : Blk w5 (X + 1 + 1 + 1 + 1) #[.int .i64 0, .int .i64 0, .int .i64 0, .int .i64 0, .int .i64 0, .int .i64 0] 40 := HS4.out.now.1.2.2.kept k2 (by simp; exact fun h => HMN.out.2 h.symm)
  have BW5 : Below X w w5 := HS4.out.now.2.trans (k2.toBelow HWs.out (by simp; exact hMX))
  clear a0 a1 a2 HDO
  by_cases h0 : R.2.2.2 = 0
  case neg =>
   have hRz : Hid (R = badDo R.2.2.2) := HRB.out h0
   have BW : Below X w w5 := BW5
   have KT : Blk w5 (X + 1 + 1 + 1) #[.int .i64 0, .int .i64 0, .slice none 0 0, .slice none 0 0, .int .i64 0, .slice none 0 0, .slice none 0 0] 34 := KT5
   have KV : Blk w5 (X + 1 + 1 + 1 + 1) #[.int .i64 0, .int .i64 0, .int .i64 0, .int .i64 0, .int .i64 0, .int .i64 0] 40 := KV5
   clear HRB HS4 k1 k2 KT5 KV5 BW5
   obtain ⟨y0, y1, y2, y3, y4, y5, y6⟩ := KT.sevenc
   obtain ⟨z0, z1, z2, z3, z4, z5⟩ := KV.sixv
   have fT := KT.free
   have fV := KV.free
   have lT := KT.lt
   have lV := KV.lt
   obtain ⟨WA, hWA⟩ : ∃ U, U = (((((((w5.setCell ⟨X + 1 + 1 + 1, 0, none⟩ (.int .i64 0)).setCell ⟨X + 1 + 1 + 1, 1, none⟩ (.int .i64 0)).setCell ⟨X + 1 + 1 + 1, 2, none⟩ (.slice none 0 0)).setCell ⟨X + 1 + 1 + 1, 3, none⟩ (.slice none 0 0)).setCell ⟨X + 1 + 1 + 1, 4, none⟩ (.int .i64 0)).setCell ⟨X + 1 + 1 + 1, 5, none⟩ (.slice none 0 0)).setCell ⟨X + 1 + 1 + 1, 6, none⟩ (.slice none 0 0)) := ⟨_, rfl⟩
   have KTA : Blk WA (X + 1 + 1 + 1) #[.int .i64 0, .int .i64 0, .slice none 0 0, .slice none 0 0, .int .i64 0, .slice none 0 0, .slice none 0 0] 34 := by
    have := (((((((KT.set 0 (.int .i64 0)).set 1 (.int .i64 0)).set 2 (.slice none 0 0)).set 3 (.slice none 0 0)).set 4 (.int .i64 0)).set 5 (.slice none 0 0)).set 6 (.slice none 0 0))
    rw [hWA]; simpa using this
   have KVA : Blk WA (X + 1 + 1 + 1 + 1) #[.int .i64 0, .int .i64 0, .int .i64 0, .int .i64 0, .int .i64 0, .int .i64 0] 40 := by
    rw [hWA]; exact (((((((KV.other (a := ⟨X + 1 + 1 + 1, 0, none⟩) (by simp) _).other (a := ⟨X + 1 + 1 + 1, 1, none⟩) (by simp) _).other (a := ⟨X + 1 + 1 + 1, 2, none⟩) (by simp) _).other (a := ⟨X + 1 + 1 + 1, 3, none⟩) (by simp) _).other (a := ⟨X + 1 + 1 + 1, 4, none⟩) (by simp) _).other (a := ⟨X + 1 + 1 + 1, 5, none⟩) (by simp) _).other (a := ⟨X + 1 + 1 + 1, 6, none⟩) (by simp) _)
   have BWA : Below X w WA := by rw [hWA]; exact (((((((BW.setCell (p := ⟨X + 1 + 1 + 1, 0, none⟩) (by show X ≤ X + 1 + 1 + 1; omega) _).setCell (p := ⟨X + 1 + 1 + 1, 1, none⟩) (by show X ≤ X + 1 + 1 + 1; omega) _).setCell (p := ⟨X + 1 + 1 + 1, 2, none⟩) (by show X ≤ X + 1 + 1 + 1; omega) _).setCell (p := ⟨X + 1 + 1 + 1, 3, none⟩) (by show X ≤ X + 1 + 1 + 1; omega) _).setCell (p := ⟨X + 1 + 1 + 1, 4, none⟩) (by show X ≤ X + 1 + 1 + 1; omega) _).setCell (p := ⟨X + 1 + 1 + 1, 5, none⟩) (by show X ≤ X + 1 + 1 + 1; omega) _).setCell (p := ⟨X + 1 + 1 + 1, 6, none⟩) (by show X ≤ X + 1 + 1 + 1; omega) _)
   obtain ⟨WB, hWB⟩ : ∃ U, U = ((((((WA.setCell ⟨X + 1 + 1 + 1 + 1, 0, none⟩ (.int .i64 0)).setCell ⟨X + 1 + 1 + 1 + 1, 1, none⟩ (.int .i64 0)).setCell ⟨X + 1 + 1 + 1 + 1, 2, none⟩ (.int .i64 0)).setCell ⟨X + 1 + 1 + 1 + 1, 3, none⟩ (.int .i64 0)).setCell ⟨X + 1 + 1 + 1 + 1, 4, none⟩ (.int .i64 0)).setCell ⟨X + 1 + 1 + 1 + 1, 5, none⟩ (.int .i64 0)) := ⟨_, rfl⟩
   have KTB : Hid (Blk WB (X + 1 + 1 + 1) #[.int .i64 0, .int .i64 0, .slice none 0 0, .slice none 0 0, .int .i64 0, .slice none 0 0, .slice none 0 0] 34) := by
    rw [hWB]; exact ((((((KTA.other (a := ⟨X + 1 + 1 + 1 + 1, 0, none⟩) (by simp) _).other (a := ⟨X + 1 + 1 + 1 + 1, 1, none⟩) (by simp) _).other (a := ⟨X + 1 + 1 + 1 + 1, 2, none⟩) (by simp) _).other (a := ⟨X + 1 + 1 + 1 + 1, 3, none⟩) (by simp) _).other (a := ⟨X + 1 + 1 + 1 + 1, 4, none⟩) (by simp) _).other (a := ⟨X + 1 + 1 + 1 + 1, 5, none⟩) (by simp) _)
   have KVB : Hid (Blk WB (X + 1 + 1 + 1 + 1) #[.int .i64 0, .int .i64 0, .int .i64 0, .int .i64 0, .int .i64 0, .int .i64 0] 40) := by
    have := ((((((KVA.set 0 (.int .i64 0)).set 1 (.int .i64 0)).set 2 (.int .i64 0)).set 3 (.int .i64 0)).set 4 (.int .i64 0)).set 5 (.int .i64 0))
    rw [hWB]; simpa [Hid] using this
   have BWB : Hid (Below X w WB) := by rw [hWB]; exact ((((((BWA.setCell (p := ⟨X + 1 + 1 + 1 + 1, 0, none⟩) (by show X ≤ X + 1 + 1 + 1 + 1; omega) _).setCell (p := ⟨X + 1 + 1 + 1 + 1, 1, none⟩) (by show X ≤ X + 1 + 1 + 1 + 1; omega) _).setCell (p := ⟨X + 1 + 1 + 1 + 1, 2, none⟩) (by show X ≤ X + 1 + 1 + 1 + 1; omega) _).setCell (p := ⟨X + 1 + 1 + 1 + 1, 3, none⟩) (by show X ≤ X + 1 + 1 + 1 + 1; omega) _).setCell (p := ⟨X + 1 + 1 + 1 + 1, 4, none⟩) (by show X ≤ X + 1 + 1 + 1 + 1; omega) _).setCell (p := ⟨X + 1 + 1 + 1 + 1, 5, none⟩) (by show X ≤ X + 1 + 1 + 1 + 1; omega) _)
   obtain ⟨v0, v1, v2, v3, v4, v5⟩ := KVA.sixv
   have fA := KVA.free
   have lA := KVA.lt
   clear KTA KVA BWA KT KV BW
   go_upto_region 7 with fail
   go_wp2
   rw [← hWA, ← hWB]
   clear hWA hWB y0 y1 y2 y3 y4 y5 y6 z0 z1 z2 z3 z4 z5 fT fV lT lV v0 v1 v2 v3 v4 v5 fA lA
   obtain ⟨y0, y1, y2, y3, y4, y5, y6⟩ := KTB.out.sevenc
   obtain ⟨z0, z1, z2, z3, z4, z5⟩ := KVB.out.sixv
   refine bodyPost_ret (v := .tuple #[.agg #[.int .i64 0, .int .i64 0, .slice none 0 0, .slice none 0 0, .int .i64 0, .slice none 0 0, .slice none 0 0], .agg #[.int .i64 0, .int .i64 0, .int .i64 0, .int .i64 0, .int .i64 0, .int .i64 0], .slice none 0 0, .int .i64 (R.2.2.2)]) (by simp [results, Tryz.results9, go_sem, y0, y1, y2, y3, y4, y5, y6, z0, z1, z2, z3, z4, z5]) rfl ?_
   rw [hRz.out]
   exact ⟨none, 0, 0, none, 0, 0, none, 0, 0, none, 0, 0, none, 0, 0, rfl, TrIn.zero _ _, rfl, World.ownsRow_nil _ _ _ _, BWB.out⟩
  obtain ⟨hv', bv', gv', ov', va, vc, q1, q2, q3⟩ := k1 h0
  obtain ⟨ha9, hc9, bo9, bc9, ga9, gc9, oa9, oc9, eh, eb, eg, eo⟩ := q2.slices
  obtain ⟨hn9, hhn9⟩ : ∃ x, x = R.1.h.length := ⟨_, rfl⟩
  obtain ⟨bn9, hbn9⟩ : ∃ x, x = R.1.o.length := ⟨_, rfl⟩
  obtain ⟨ln9, hln9⟩ : ∃ x, x = R.1.L.length := ⟨_, rfl⟩
  obtain ⟨lo9, hlo9⟩ : ∃ x, x = R.1.O.length := ⟨_, rfl⟩
  obtain ⟨vn, hvn⟩ : ∃ x, x = R.2.2.1.length := ⟨_, rfl⟩
  rw [← hhn9] at eh
  rw [← hbn9] at eb
  rw [← hln9] at eg
  rw [← hlo9] at eo
  rw [← hvn] at q1 q3
  obtain ⟨la9, hla9⟩ : ∃ x, x = R.1.last := ⟨_, rfl⟩
  obtain ⟨ne9, hne9⟩ : ∃ x, x = R.1.next := ⟨_, rfl⟩
  obtain ⟨fi9, hfi9⟩ : ∃ x, x = R.1.first := ⟨_, rfl⟩
  obtain ⟨m9, hm9⟩ : ∃ x, x = R.2.1.m := ⟨_, rfl⟩
  obtain ⟨g9, hg9⟩ : ∃ x, x = R.2.1.g := ⟨_, rfl⟩
  obtain ⟨f9, hf9⟩ : ∃ x, x = R.2.1.f := ⟨_, rfl⟩
  obtain ⟨l9, hl9⟩ : ∃ x, x = R.2.1.l := ⟨_, rfl⟩
  obtain ⟨t9, ht9⟩ : ∃ x, x = R.2.1.t := ⟨_, rfl⟩
  obtain ⟨s9, hs9⟩ : ∃ x, x = R.2.1.s := ⟨_, rfl⟩
  have q1' : Blk w5 M #[.int .i64 m9, .int .i64 g9, .int .i64 f9, .int .i64 l9, .int .i64 t9, .int .i64 s9, .int .i64 la9, .int .i64 ne9, hv', bv', .int .i64 fi9, gv', ov', .slice va vn vc] 77 := by
   rw [hm9, hg9, hf9, hl9, ht9, hs9, hla9, hne9, hfi9]; exact q1
  have HFI : Hid (la9 = R.1.last ∧ ne9 = R.1.next ∧ fi9 = R.1.first ∧ m9 = R.2.1.m ∧ g9 = R.2.1.g ∧ f9 = R.2.1.f ∧ l9 = R.2.1.l ∧ t9 = R.2.1.t ∧ s9 = R.2.1.s ∧ vn = R.2.2.1.length) := ⟨hla9, hne9, hfi9, hm9, hg9, hf9, hl9, ht9, hs9, hvn⟩
  subst eh eb eg eo
  have HM5 : Hid (Blk w5 M #[.int .i64 m9, .int .i64 g9, .int .i64 f9, .int .i64 l9, .int .i64 t9, .int .i64 s9, .int .i64 la9, .int .i64 ne9, .slice ha9 hn9 hc9, .slice bo9 bn9 bc9, .int .i64 fi9, .slice ga9 ln9 gc9, .slice oa9 lo9 oc9, .slice va vn vc] 77) := q1'
  have HT5 : Hid (TrIn (fun b => X ≤ b ∧ b ≠ X + 1 + 1 + 1 ∧ b ≠ X + 1 + 1 + 1 + 1) w5 (.slice ha9 hn9 hc9) (.slice bo9 bn9 bc9) (.slice ga9 ln9 gc9) (.slice oa9 lo9 oc9) R.1) := q2.mono fun b _ h => h.1
  have HO5 : Hid (w5.ownsRow W.heap.size 63 6 (.slice va vn vc) vn (pkCells R.2.2.1)) := q3
  have KT : Hid (Blk w5 (X + 1 + 1 + 1) #[.int .i64 0, .int .i64 0, .slice none 0 0, .slice none 0 0, .int .i64 0, .slice none 0 0, .slice none 0 0] 34) := KT5
  have KV : Hid (Blk w5 (X + 1 + 1 + 1 + 1) #[.int .i64 0, .int .i64 0, .int .i64 0, .int .i64 0, .int .i64 0, .int .i64 0] 40) := KV5
  have HB5 : Hid (Below X w w5) := BW5
  have H00 : Hid (R.2.2.2 = 0) := h0
  have HX5 : Hid (X + 1 + 1 + 1 + 1 < W.heap.size) := HS4.out.now.1.2.2.lt
  clear k1 k2 q1 q1' q2 q3 hhn9 hbn9 hln9 hlo9 hvn hla9 hne9 hfi9 hm9 hg9 hf9 hl9 ht9 hs9 KT5 KV5 BW5 HRB HS4
  have hre : R.2.2.2 = 0 := h0
  rw [hre]
  clear h0 hre
  go_upto_region 8 with fail
  refine region_chainG (by kernel_rfl) (by kernel_rfl) [.quiet (.pointer (some ⟨M, 6, none⟩)) 2, .quiet (.agg #[.int .i64 la9, .int .i64 ne9, .slice ha9 hn9 hc9, .slice bo9 bn9 bc9, .int .i64 fi9, .slice ga9 ln9 gc9, .slice oa9 lo9 oc9]) 2, .quiet (.pointer (some ⟨M, 0, none⟩)) 2, .quiet (.agg #[.int .i64 m9, .int .i64 g9, .int .i64 f9, .int .i64 l9, .int .i64 t9, .int .i64 s9]) 2, .quiet (.pointer (some ⟨M, 13, none⟩)) 2, .quiet (.slice va vn vc) 2, .step 0, .step 1, .quiet (.slice va vn vc) 2, .quiet (.int .i64 0) 2] [6, 7] (by kernel_rfl)
   (fun s' r w' => match s' with
    | 0 => Kept [X + 1 + 1 + 1, X + 1 + 1 + 1 + 1] w5 w' ∧ Blk w' (X + 1 + 1 + 1) #[.int .i64 0, .int .i64 0, .slice none 0 0, .slice none 0 0, .int .i64 0, .slice none 0 0, .slice none 0 0] 34 ∧ Blk w' (X + 1 + 1 + 1 + 1) #[.int .i64 0, .int .i64 0, .int .i64 0, .int .i64 0, .int .i64 0, .int .i64 0] 40
    | 1 => Kept [X + 1 + 1 + 1, X + 1 + 1 + 1 + 1] w5 w' ∧ Blk w' (X + 1 + 1 + 1) #[.int .i64 la9, .int .i64 ne9, .slice ha9 hn9 hc9, .slice bo9 bn9 bc9, .int .i64 fi9, .slice ga9 ln9 gc9, .slice oa9 lo9 oc9] 34 ∧ Blk w' (X + 1 + 1 + 1 + 1) #[.int .i64 0, .int .i64 0, .int .i64 0, .int .i64 0, .int .i64 0, .int .i64 0] 40
    | _ => Kept [X + 1 + 1 + 1, X + 1 + 1 + 1 + 1] w5 w' ∧ Blk w' (X + 1 + 1 + 1) #[.int .i64 la9, .int .i64 ne9, .slice ha9 hn9 hc9, .slice bo9 bn9 bc9, .int .i64 fi9, .slice ga9 ln9 gc9, .slice oa9 lo9 oc9] 34 ∧ Blk w' (X + 1 + 1 + 1 + 1) #[.int .i64 m9, .int .i64 g9, .int .i64 f9, .int .i64 l9, .int .i64 t9, .int .i64 s9] 40
    ) ⟨(Kept.refl _ _).drew, KT.out.drew, KV.out.drew⟩ ?step ?fin
  case step =>
   intro i o' ho a' w' s' r hI hfree hvals
   have hK : Kept [X + 1 + 1 + 1, X + 1 + 1 + 1 + 1] w5 w' := by
    match s', hI with
    | 0, hI => exact hI.1
    | 1, hI => exact hI.1
    | n + 2, hI => exact hI.1
   obtain ⟨y0, y1, y2, y3, y4, y5, y6, y7, y8, y9, y10, y11, y12, y13⟩ := (HM5.out.kept hK (by simp; exact HMN.out)).fourteen
   match i, ho with
   | 0, ho =>
    simp at ho; subst ho
    have e11 : a'.eval (.tmp 11) = .pointer (some ⟨M, 0, none⟩) := (hfree 11 (by kernel_rfl)).trans rfl
    show s' ≤ 2 → _
    intro hs
    refine .inl ⟨rfl, ?_⟩
    generalize a'.eval = ρ at *
    simp [execOp, go_sem, e11]
   | 1, ho =>
    simp at ho; subst ho
    have e33 : a'.eval (.tmp 33) = .pointer (some ⟨M, 6, none⟩) := hvals 0 _ _ (by kernel_rfl) rfl rfl
    show s' ≤ 2 → _
    intro hs
    refine .inl ⟨rfl, ?_⟩
    generalize a'.eval = ρ at *
    simp [execOp, go_sem, e33, y6, y7, y8, y9, y10, y11, y12]
   | 2, ho =>
    simp at ho; subst ho
    have e11 : a'.eval (.tmp 11) = .pointer (some ⟨M, 0, none⟩) := (hfree 11 (by kernel_rfl)).trans rfl
    show s' ≤ 2 → _
    intro hs
    refine .inl ⟨rfl, ?_⟩
    generalize a'.eval = ρ at *
    simp [execOp, go_sem, e11]
   | 3, ho =>
    simp at ho; subst ho
    have e35 : a'.eval (.tmp 35) = .pointer (some ⟨M, 0, none⟩) := hvals 2 _ _ (by kernel_rfl) rfl rfl
    show s' ≤ 2 → _
    intro hs
    refine .inl ⟨rfl, ?_⟩
    generalize a'.eval = ρ at *
    simp [execOp, go_sem, e35, y0, y1, y2, y3, y4, y5]
   | 4, ho =>
    simp at ho; subst ho
    have e11 : a'.eval (.tmp 11) = .pointer (some ⟨M, 0, none⟩) := (hfree 11 (by kernel_rfl)).trans rfl
    show s' ≤ 2 → _
    intro hs
    refine .inl ⟨rfl, ?_⟩
    generalize a'.eval = ρ at *
    simp [execOp, go_sem, e11]
   | 5, ho =>
    simp at ho; subst ho
    have e37 : a'.eval (.tmp 37) = .pointer (some ⟨M, 13, none⟩) := hvals 4 _ _ (by kernel_rfl) rfl rfl
    show s' ≤ 2 → _
    intro hs
    refine .inl ⟨rfl, ?_⟩
    generalize a'.eval = ρ at *
    simp [execOp, go_sem, e37, y13]
   | 6, ho =>
    simp at ho; subst ho
    have e6 : a'.eval (.tmp 6) = .pointer (some ⟨X + 1 + 1 + 1, 0, none⟩) := (hfree 6 (by kernel_rfl)).trans rfl
    have e34 : a'.eval (.tmp 34) = .agg #[.int .i64 la9, .int .i64 ne9, .slice ha9 hn9 hc9, .slice bo9 bn9 bc9, .int .i64 fi9, .slice ga9 ln9 gc9, .slice oa9 lo9 oc9] := hvals 1 _ _ (by kernel_rfl) rfl rfl
    show s' = 0 → _ ∧ Oper.wp _ _ _ _ _ _
    intro hs
    subst hs
    refine ⟨rfl, ?_⟩
    obtain ⟨hK2, hp, hq⟩ := hI
    obtain ⟨t0, t1, t2, t3, t4, t5, t6⟩ := hp.sevenc
    have fr := hp.free
    refine oper_wp_skip (w' := (((((((w'.setCell ⟨X + 1 + 1 + 1, 0, none⟩ (.int .i64 la9)).setCell ⟨X + 1 + 1 + 1, 1, none⟩ (.int .i64 ne9)).setCell ⟨X + 1 + 1 + 1, 2, none⟩ (.slice ha9 hn9 hc9)).setCell ⟨X + 1 + 1 + 1, 3, none⟩ (.slice bo9 bn9 bc9)).setCell ⟨X + 1 + 1 + 1, 4, none⟩ (.int .i64 fi9)).setCell ⟨X + 1 + 1 + 1, 5, none⟩ (.slice ga9 ln9 gc9)).setCell ⟨X + 1 + 1 + 1, 6, none⟩ (.slice oa9 lo9 oc9))) ?_ ⟨_, rfl, (((((((hK2.setCell (p := ⟨X + 1 + 1 + 1, 0, none⟩) (by simp) _).setCell (p := ⟨X + 1 + 1 + 1, 1, none⟩) (by simp) _).setCell (p := ⟨X + 1 + 1 + 1, 2, none⟩) (by simp) _).setCell (p := ⟨X + 1 + 1 + 1, 3, none⟩) (by simp) _).setCell (p := ⟨X + 1 + 1 + 1, 4, none⟩) (by simp) _).setCell (p := ⟨X + 1 + 1 + 1, 5, none⟩) (by simp) _).setCell (p := ⟨X + 1 + 1 + 1, 6, none⟩) (by simp) _), (((((((hp.set 0 (.int .i64 la9)).set 1 (.int .i64 ne9)).set 2 (.slice ha9 hn9 hc9)).set 3 (.slice bo9 bn9 bc9)).set 4 (.int .i64 fi9)).set 5 (.slice ga9 ln9 gc9)).set 6 (.slice oa9 lo9 oc9)), (((((((hq.other (a := ⟨X + 1 + 1 + 1, 0, none⟩) (by simp) _).other (a := ⟨X + 1 + 1 + 1, 1, none⟩) (by simp) _).other (a := ⟨X + 1 + 1 + 1, 2, none⟩) (by simp) _).other (a := ⟨X + 1 + 1 + 1, 3, none⟩) (by simp) _).other (a := ⟨X + 1 + 1 + 1, 4, none⟩) (by simp) _).other (a := ⟨X + 1 + 1 + 1, 5, none⟩) (by simp) _).other (a := ⟨X + 1 + 1 + 1, 6, none⟩) (by simp) _)⟩
    generalize a'.eval = ρ at *
    simp [execOp, go_sem, e6, e34, t0, t1, t2, t3, t4, t5, t6, fr]
   | 7, ho =>
    simp at ho; subst ho
    have e7 : a'.eval (.tmp 7) = .pointer (some ⟨X + 1 + 1 + 1 + 1, 0, none⟩) := (hfree 7 (by kernel_rfl)).trans rfl
    have e36 : a'.eval (.tmp 36) = .agg #[.int .i64 m9, .int .i64 g9, .int .i64 f9, .int .i64 l9, .int .i64 t9, .int .i64 s9] := hvals 3 _ _ (by kernel_rfl) rfl rfl
    show s' = 1 → _ ∧ Oper.wp _ _ _ _ _ _
    intro hs
    subst hs
    refine ⟨rfl, ?_⟩
    obtain ⟨hK2, hp, hq⟩ := hI
    obtain ⟨t0, t1, t2, t3, t4, t5⟩ := hq.sixv
    have fr := hq.free
    refine oper_wp_skip (w' := ((((((w'.setCell ⟨X + 1 + 1 + 1 + 1, 0, none⟩ (.int .i64 m9)).setCell ⟨X + 1 + 1 + 1 + 1, 1, none⟩ (.int .i64 g9)).setCell ⟨X + 1 + 1 + 1 + 1, 2, none⟩ (.int .i64 f9)).setCell ⟨X + 1 + 1 + 1 + 1, 3, none⟩ (.int .i64 l9)).setCell ⟨X + 1 + 1 + 1 + 1, 4, none⟩ (.int .i64 t9)).setCell ⟨X + 1 + 1 + 1 + 1, 5, none⟩ (.int .i64 s9))) ?_ ⟨_, rfl, ((((((hK2.setCell (p := ⟨X + 1 + 1 + 1 + 1, 0, none⟩) (by simp) _).setCell (p := ⟨X + 1 + 1 + 1 + 1, 1, none⟩) (by simp) _).setCell (p := ⟨X + 1 + 1 + 1 + 1, 2, none⟩) (by simp) _).setCell (p := ⟨X + 1 + 1 + 1 + 1, 3, none⟩) (by simp) _).setCell (p := ⟨X + 1 + 1 + 1 + 1, 4, none⟩) (by simp) _).setCell (p := ⟨X + 1 + 1 + 1 + 1, 5, none⟩) (by simp) _), ((((((hp.other (a := ⟨X + 1 + 1 + 1 + 1, 0, none⟩) (by simp) _).other (a := ⟨X + 1 + 1 + 1 + 1, 1, none⟩) (by simp) _).other (a := ⟨X + 1 + 1 + 1 + 1, 2, none⟩) (by simp) _).other (a := ⟨X + 1 + 1 + 1 + 1, 3, none⟩) (by simp) _).other (a := ⟨X + 1 + 1 + 1 + 1, 4, none⟩) (by simp) _).other (a := ⟨X + 1 + 1 + 1 + 1, 5, none⟩) (by simp) _), ((((((hq.set 0 (.int .i64 m9)).set 1 (.int .i64 g9)).set 2 (.int .i64 f9)).set 3 (.int .i64 l9)).set 4 (.int .i64 t9)).set 5 (.int .i64 s9))⟩
    generalize a'.eval = ρ at *
    simp [execOp, go_sem, e7, e36, t0, t1, t2, t3, t4, t5, fr]
   | 8, ho =>
    simp at ho; subst ho
    have e38 : a'.eval (.tmp 38) = .slice va vn vc := hvals 5 _ _ (by kernel_rfl) rfl rfl
    show s' ≤ 2 → _
    intro hs
    refine .inl ⟨rfl, ?_⟩
    generalize a'.eval = ρ at *
    simp [execOp, go_sem, e38]
   | 9, ho =>
    simp at ho; subst ho
    have ec0 : a'.eval (.const (.int .i64 0)) = .int .i64 0 := rfl
    show s' ≤ 2 → _
    intro hs
    refine .inl ⟨rfl, ?_⟩
    generalize a'.eval = ρ at *
    simp [execOp, go_sem, ec0]
  case fin =>
   rintro r W8 ⟨hK8, hp8, hq8⟩
   simp only [putC, Ck.out, Act.put, List.setIfInBounds_toArray, List.set_cons_succ, List.set_cons_zero]
   have HT8 : Hid (TrIn (fun b => X ≤ b) W8 (.slice ha9 hn9 hc9) (.slice bo9 bn9 bc9) (.slice ga9 ln9 gc9) (.slice oa9 lo9 oc9) R.1) := HT5.out.to (hK8.sameOn (fun b h => by simp; exact h.2)) (fun _ _ h => h.1)
   have HO8 : Hid (W8.ownsRow X 63 6 (.slice va vn vc) vn (pkCells R.2.2.1)) := owns_base (owns_same HO5.out (fun b hb => hK8.block b (pk_lt HO5.out b hb).2 (by have := (pk_lt HO5.out b hb).1; have h9 := HX5.out; simp; omega))) HWs.out
   have HB8 : Hid (Below X w W8) := HB5.out.trans (hK8.toBelow (by have := HM5.out.lt; omega) (by simp; omega))
   obtain ⟨y0, y1, y2, y3, y4, y5, y6⟩ := hp8.sevenc
   obtain ⟨z0, z1, z2, z3, z4, z5⟩ := hq8.sixv
   clear hp8 hq8 hK8 HM5 HT5 HO5 KT KV HB5
   go_wp2_with fail
   refine bodyPost_ret (v := .tuple #[.agg #[.int .i64 la9, .int .i64 ne9, .slice ha9 hn9 hc9, .slice bo9 bn9 bc9, .int .i64 fi9, .slice ga9 ln9 gc9, .slice oa9 lo9 oc9], .agg #[.int .i64 m9, .int .i64 g9, .int .i64 f9, .int .i64 l9, .int .i64 t9, .int .i64 s9], .slice va vn vc, .int .i64 0]) (by simp [results, Tryz.results9, go_sem, y0, y1, y2, y3, y4, y5, y6, z0, z1, z2, z3, z4, z5]) rfl ?_
   obtain ⟨f1, f2, f3, f4, f5, f6, f7, f8, f9, f10⟩ := HFI.out
   refine ⟨ha9, hn9, hc9, bo9, bn9, bc9, ga9, ln9, gc9, oa9, lo9, oc9, va, vn, vc, ?_, HT8.out, f10, HO8.out, HB8.out⟩
   rw [H00.out, f1, f2, f3, f4, f5, f6, f7, f8, f9]
theorem pause_zero {t : Tr} {v : Vw} (h : (doA t v 3 0 ByteArray.empty).2.2.2 = 0) : doA t v 3 0 ByteArray.empty = (t, v.cur 2 v.g v.f, [], 0) ∧ t.chk = 0 ∧ v.chk = 0 ∧ (v.cur 2 v.g v.f).chk = 0 := by
 obtain ⟨h1, h2, _, _, h5, _⟩ := do_right h
 have e : doA t v 3 0 ByteArray.empty = if v.fresh = true then badDo 4 else (t, v.cur 2 v.g v.f, [], 0) := by
  unfold doA doR
  rw [if_pos h1, if_pos h2, if_pos (by decide), if_neg (by decide), if_neg (by decide), if_pos rfl]
 by_cases hf : v.fresh = true
 ·rw [e, if_pos hf] at h; exact absurd h (by decide)
 ·rw [if_neg hf] at e
  rw [e] at h5
  exact ⟨e, h1, h2, h5⟩
theorem feed_any {t : Tr} {v : Vw} {s : ByteArray} (h1 : t.chk = 0) (h2 : v.chk = 0) : doA t v 1 0 s = if (feedR t s.data.toList).2.2 = 0 then ((feedR t s.data.toList).1, v, [], 0) else badDo (feedR t s.data.toList).2.2 := by
 have ha : actE 1 0 s = 0 := by unfold actE; rw [if_neg (by omega), if_neg (by simp)]
 unfold doA doR
 rw [if_pos h1, if_pos h2, if_pos ha, if_pos rfl]
theorem send_paused {t : Tr} {p : Vw} {n : Int} (h1 : t.chk = 0) (h2 : p.chk = 0) (hm : p.m = 2) : doA t p 5 n ByteArray.empty = if n < 0 ∨ 1000000 < n then badDo 3 else (t, p, [], 0) := by
 have ha : actE 5 n ByteArray.empty = 0 := by unfold actE; rw [if_neg (by omega), if_neg (by simp)]
 have hf : ¬ p.fresh = true := fun h => by have := (fresh_iff.1 h).1; omega
 have hn : nxt p.m t.A (p.g - t.first) p.f n = none := by unfold nxt; rw [if_pos (.inl hm)]
 unfold doA doR
 rw [if_pos h1, if_pos h2, if_pos ha, if_neg (by decide), if_neg (by decide), if_neg (by decide), if_neg (by decide), if_neg hf, sendF_none hn]
 simp
theorem eql_vw (m g f l t s : Int) (w : World) : (binOp .eql 40 (.agg #[.int .i64 m, .int .i64 g, .int .i64 f, .int .i64 l, .int .i64 t, .int .i64 s]) (.agg #[.int .i64 m, .int .i64 g, .int .i64 f, .int .i64 l, .int .i64 t, .int .i64 s])).run Tryz.prog w = .ok (.bool true) w := by
 rw [run_eql_struct, run_equalIn_agg w 9999 40 _ _ (by kernel_rfl) (by kernel_rfl)]
 rw [show (Tryz.prog.fieldsOf 40) = _ by unfold Program.fieldsOf; rw [Tryz.underlying40]]
 simp [go_sem]
theorem neql_vw (m g f l t s : Int) (w : World) : (binOp .neq 40 (.agg #[.int .i64 m, .int .i64 g, .int .i64 f, .int .i64 l, .int .i64 t, .int .i64 s]) (.agg #[.int .i64 m, .int .i64 g, .int .i64 f, .int .i64 l, .int .i64 t, .int .i64 s])).run Tryz.prog w = .ok (.bool false) w := by
 rw [run_neq_struct, run_equalIn_agg w 9999 40 _ _ (by kernel_rfl) (by kernel_rfl)]
 rw [show (Tryz.prog.fieldsOf 40) = _ by unfold Program.fieldsOf; rw [Tryz.underlying40]]
 simp [go_sem]
theorem neql_out0 (a b c : Int) (w : World) : (binOp .neq 38 (.agg #[.int .i64 a, .int .i64 b, .int .i64 c]) (.agg #[.int .i64 a, .int .i64 b, .int .i64 c])).run Tryz.prog w = .ok (.bool false) w := by
 rw [run_neq_struct, run_equalIn_agg w 9999 38 _ _ (by kernel_rfl) (by kernel_rfl)]
 rw [show (Tryz.prog.fieldsOf 38) = _ by unfold Program.fieldsOf; rw [Tryz.underlying38]]
 simp [go_sem]
def Ac.cells (a : Ac) : Array Value := #[.int .i64 a.kind, .int .i64 a.n, .string a.x]
def acCells (l : List Ac) : List Value := l.flatMap fun a => a.cells.toList
theorem acCells_append (l m : List Ac) : acCells (l ++ m) = acCells l ++ acCells m := by simp [acCells]
theorem acCells_one (p : Ac) : acCells [p] = p.cells.toList := by simp [acCells]
theorem acCells_len (l : List Ac) : (acCells l).length = l.length * 3 := by
 induction l with
 | nil => rfl
 | cons p r ih => rw [show p :: r = [p] ++ r from rfl, acCells_append, acCells_one, List.length_append, ih]; simp [Ac.cells]; omega
def Acs (w : World) (v : Value) (l : List Ac) : Prop := Sl w v l.length 3 (acCells l)
theorem Acs.below {w w' : World} {v : Value} {l : List Ac} (h : Acs w v l) (hb : Below w.heap.size w w') : Acs w' v l := Sl.below h hb
theorem Acs.parts {w : World} {v : Value} {l : List Ac} (h : Acs w v l) :
  ∃ ao c, v = .slice ao l.length c ∧ ∀ k, k < l.length → ∃ b off, ao = some ⟨b, off, none⟩ ∧ b < w.heap.size ∧ ∀ j u, (l[k]?.getD Ac.zero).cells[j]? = some u → w.cell? ⟨b, off + k * 3 + j, none⟩ = some u := by
 obtain ⟨_, ⟨h0, a, c, rfl⟩ | ⟨b, off, c, rfl, hb, hc⟩⟩ := h
 ·exact ⟨a, c, by rw [h0], fun k hk => by omega⟩
 ·refine ⟨_, c, rfl, fun k hk => ⟨b, off, rfl, hb, fun j u hj => ?_⟩⟩
  rw [Nat.add_assoc]
  refine hc _ _ ?_
  rw [List.getElem?_eq_getElem hk, Option.getD_some] at hj
  have hj6 : j < 3 := by
   have := (Array.getElem?_eq_some_iff.1 hj).1
   simpa [Ac.cells] using this
  have : l = l.take k ++ [l[k]] ++ l.drop (k + 1) := by
   rw [List.append_assoc, List.singleton_append, List.getElem_cons_drop, List.take_append_drop]
  rw [this, acCells_append, acCells_append, acCells_one]
  have hl1 : (acCells (l.take k)).length = k * 3 := by rw [acCells_len, List.length_take, Nat.min_eq_left (by omega)]
  rw [List.getElem?_append_left (by rw [List.length_append, hl1]; simp [Ac.cells]; omega), List.getElem?_append_right (by omega), hl1, Nat.add_sub_cancel_left]
  simpa using hj
theorem Tryz.infoErr : (Tryz.prog.info? 43).map (fun i => (i.zero, i.size, i.bytes)) = some (some (.int .i64 0), 1, 8) := by kernel_rfl
def erCells (l : List Int) : List Value := l.map (Value.int .i64)
theorem er_snoc {base : Nat} {w : World} {v : Value} {n : Nat} {l : List Int} (e : Int) (h : w.ownsRow base 43 1 v n (erCells l)) (hl : n ≤ 999) (hb : base ≤ w.heap.size) :
  ∃ v' w', (Builtin.append_ #[58, 58] 58 #[v, .slice (some ⟨w.heap.size, 0, none⟩) 1 1]).run Tryz.prog (w.alloc (.cells #[.int .i64 e] 43)) = .ok v' w' ∧ w'.ownsRow base 43 1 v' (n + 1) (erCells (l ++ [e])) ∧ (w.alloc (.cells #[.int .i64 e] 43)).grownBy w' v.ownBlock ∧ (v'.ownBlock = v.ownBlock ∨ ∀ g, v'.ownBlock = some g → w.heap.size ≤ g) := by
 obtain ⟨i0, hi, hz0, hz1, hz2⟩ := info_parts Tryz.infoErr
 obtain ⟨v', w', r, o, g, d⟩ := run_append_any (P := Tryz.prog) (w.alloc (.cells #[.int .i64 e] 43)) base 58 58 43 i0 _ 1 8 Tryz.underlying58 hi hz0 hz1 hz2 rfl (by decide) v n (erCells l) (h.alloc _) 1 [.int .i64 e] (.slice (some ⟨w.heap.size, 0, none⟩) 1 1) (Sl.new w #[.int .i64 e] 43 1 1 1 rfl) (fun u hu => by simp at hu; subst hu; rfl) (by unfold maxLen; omega) (by omega) (by simp; omega)
 refine ⟨v', w', r, ?_, g, ?_⟩
 ·have : erCells (l ++ [e]) = erCells l ++ [.int .i64 e] := by simp [erCells]
  rw [this]; exact o
 ·rcases d with d | d
  ·exact .inl d
  ·exact .inr fun g hg => by have := d g hg; simp at this; omega
def runR (l : List Ac) : Tr × Vw × List Pk × List Int × Int := if 60 < l.length then (Tr.zero, Vw.zero, [], [], 2) else ((upD l l.length).1, (upD l l.length).2.1, (upD l l.length).2.2.1, (upD l l.length).2.2.2, 0)
theorem sent_len (l : List Ac) (k : Nat) (hk : k ≤ l.length) : (upD l k).2.2.1.length ≤ 1000000000 := by
 obtain ⟨_, h2, h3, _⟩ := upD_right l k hk
 have h4 := h3.1
 have h5 := outE_zero.1 (Vw.chk_zero.1 h2).2
 omega
end Go.Proofs.YtnpaejknoipicagGreat
