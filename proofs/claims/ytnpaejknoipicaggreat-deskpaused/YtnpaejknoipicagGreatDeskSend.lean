/-
  Contract: the doer's send (its regions by program: reg/desksend.py).
-/
import Derived.Test.YtnpaejknoipicagGreatMgDeskPaused11
import Derived.Test.YtnpaejknoipicagGreatMgDeskPaused13
import Derived.Test.YtnpaejknoipicagGreatMgDeskPaused9
import Derived.Test.YtnpaejknoipicagGreatMgDeskPaused10
import Derived.Deep.DeepCutAuto
namespace Go.Proofs.YtnpaejknoipicagGreat
open Go.RowKit

/-- what the doer's send answers -/
def sndE (T : Tr) (n : Int) (v : Vw) : Int := if n < 0 ∨ 1000000 < n then 3 else (sendF T n 40 v []).2.2
theorem sendF_none {T : Tr} {n : Int} {v : Vw} (h : nxt v.m T.A (v.g - T.first) v.f n = none) (k : Nat) (a : List Pk) : sendF T n k v a = (v, a, 0) := by
  cases k with
  | zero => rfl
  | succ k => simp only [sendF, h]
theorem sendF_some {T : Tr} {n : Int} {v : Vw} {p : Nat × Nat × Bool} (h : nxt v.m T.A (v.g - T.first) v.f n = some p) (k : Nat) (a : List Pk) : sendF T n (k + 1) v a = if sdE v.l v.t v.s (frAt (grAt T.A p.1) p.2.1) (p.2.2 || v.f == 0) = 0 then
        sendF T n k (v.sent (T.first + p.1) (p.2.1 + 1) (sdO v.l v.t v.s (frAt (grAt T.A p.1) p.2.1) (p.2.2 || v.f == 0))) (a ++ sdP v.l v.t v.s (frAt (grAt T.A p.1) p.2.1) (p.2.2 || v.f == 0))
      else (Vw.zero, [], sdE v.l v.t v.s (frAt (grAt T.A p.1) p.2.1) (p.2.2 || v.f == 0)) := by
  simp only [sendF, h]

set_option maxHeartbeats 16000000 in
set_option maxRecDepth 100000 in
theorem dkSend_any (M : Nat) (v : Vw) (T : Tr) (upto : Int) (hv bv gv ov : Value) (w : World) (hM : Blk w M (dkC v T hv bv gv ov (.slice none 0 0)) 77) (hr : TrIn (fun g => g ≠ M) w hv bv gv ov T) (hst : stchk T.first T.L T.O = 0) (hcu : curE v.m v.g v.f = 0) (hou : outE v.l v.t v.s = 0) :
    Calls Tryz.prog 80 #[.pointer (some ⟨M, 0, none⟩), .int .i64 upto] w fun e w' => e = .returned (.int .i64 (sndE T upto v)) ∧ (sndE T upto v = 0 → ∃ va vc, Blk w' M (dkC (sendF T upto 40 v []).1 T hv bv gv ov (.slice va (sendF T upto 40 v []).2.1.length vc)) 77 ∧ w'.ownsRow w.heap.size 63 6 (.slice va (sendF T upto 40 v []).2.1.length vc) (sendF T upto 40 v []).2.1.length (pkCells (sendF T upto 40 v []).2.1)) ∧ Kept [M] w w' := by
  obtain ⟨ha, hc, bo, bc, ga, gc, oa, oc, eh, eb, eg, eo⟩ := hr.slices
  obtain ⟨hn, hhn⟩ : ∃ x, x = T.h.length := ⟨_, rfl⟩
  obtain ⟨bn, hbn⟩ : ∃ x, x = T.o.length := ⟨_, rfl⟩
  obtain ⟨ln, hln⟩ : ∃ x, x = T.L.length := ⟨_, rfl⟩
  obtain ⟨lo, hlo⟩ : ∃ x, x = T.O.length := ⟨_, rfl⟩
  obtain ⟨tl, htl⟩ : ∃ x, x = T.last := ⟨_, rfl⟩
  obtain ⟨tn, htn⟩ : ∃ x, x = T.next := ⟨_, rfl⟩
  obtain ⟨first, hfi⟩ : ∃ x, x = T.first := ⟨_, rfl⟩
  obtain ⟨R, hR⟩ : ∃ x, x = sendF T upto 40 v [] := ⟨_, rfl⟩
  obtain ⟨E, hE⟩ : ∃ x, x = sndE T upto v := ⟨_, rfl⟩
  rw [← hhn] at eh
  rw [← hbn] at eb
  rw [← hln] at eg
  rw [← hlo] at eo
  have hMl := hM.lt
  obtain ⟨m0, g0, f0, l0, t0, s0⟩ := v
  simp only at hcu hou
  rw [show dkC ⟨m0, g0, f0, l0, t0, s0⟩ T hv bv gv ov (.slice none 0 0) = #[.int .i64 m0, .int .i64 g0, .int .i64 f0, .int .i64 l0, .int .i64 t0, .int .i64 s0, .int .i64 tl, .int .i64 tn, hv, bv, .int .i64 first, gv, ov, .slice none 0 0] by rw [htl, htn, hfi]] at hM
  rw [eh, eb, eg, eo] at hM hr
  have HTT : Hid (tl = T.last ∧ tn = T.next ∧ first = T.first) := ⟨htl, htn, hfi⟩
  have HST : Hid (stchk T.first T.L T.O = 0) := hst
  have HM0 : Hid (Blk w M #[.int .i64 m0, .int .i64 g0, .int .i64 f0, .int .i64 l0, .int .i64 t0, .int .i64 s0, .int .i64 tl, .int .i64 tn, .slice ha hn hc, .slice bo bn bc, .int .i64 first, .slice ga ln gc, .slice oa lo oc, .slice none 0 0] 77) := hM
  have HTr : Hid (TrIn (fun g => g ≠ M ∧ g < w.heap.size) w (.slice ha hn hc) (.slice bo bn bc) (.slice ga ln gc) (.slice oa lo oc) T) := hr.mono fun g h hg => ⟨hg, h⟩
  have HR0 : Hid (R = sendF T upto 40 ⟨m0, g0, f0, l0, t0, s0⟩ []) := hR
  have HE0 : Hid (E = if upto < 0 ∨ 1000000 < upto then 3 else R.2.2) := by show E = _; rw [hE, hR]; rfl
  have HCO : Hid (curE m0 g0 f0 = 0 ∧ outE l0 t0 s0 = 0) := ⟨hcu, hou⟩
  have hl0 := (outE_zero.1 hou).1
  have hl1 := (outE_zero.1 hou).2.1
  obtain ⟨base, hbase⟩ : ∃ b, b = w.heap.size := ⟨_, rfl⟩
  have HBS : Hid (base = w.heap.size) := hbase
  have HVAL : Hid (hv = .slice ha hn hc ∧ bv = .slice bo bn bc ∧ gv = .slice ga ln gc ∧ ov = .slice oa lo oc) := ⟨eh, eb, eg, eo⟩
  have HFIN : Hid (∀ (w' : World) (n : Nat) (sa : Option Addr) (sc : Nat) (vk : Vw) (a : List Pk), R = (vk, a, 0) → n = a.length → Blk w' M #[.int .i64 vk.m, .int .i64 vk.g, .int .i64 vk.f, .int .i64 vk.l, .int .i64 vk.t, .int .i64 vk.s, .int .i64 tl, .int .i64 tn, .slice ha hn hc, .slice bo bn bc, .int .i64 first, .slice ga ln gc, .slice oa lo oc, .slice sa n sc] 77 → w'.ownsRow base 63 6 (.slice sa n sc) n (pkCells a) → ∃ va vc, Blk w' M (dkC (sendF T upto 40 ⟨m0, g0, f0, l0, t0, s0⟩ []).1 T hv bv gv ov (.slice va (sendF T upto 40 ⟨m0, g0, f0, l0, t0, s0⟩ []).2.1.length vc)) 77 ∧ w'.ownsRow w.heap.size 63 6 (.slice va (sendF T upto 40 ⟨m0, g0, f0, l0, t0, s0⟩ []).2.1.length vc) (sendF T upto 40 ⟨m0, g0, f0, l0, t0, s0⟩ []).2.1.length (pkCells (sendF T upto 40 ⟨m0, g0, f0, l0, t0, s0⟩ []).2.1)) := fun w' n sa sc vk a h1 h2 h3 h4 => by
    rw [← HR0.out, h1]
    simp only
    rw [← h2, HVAL.out.1, HVAL.out.2.1, HVAL.out.2.2.1, HVAL.out.2.2.2, ← HBS.out]
    refine ⟨sa, sc, ?_, h4⟩
    unfold dkC
    rw [← HTT.out.1, ← HTT.out.2.1, ← HTT.out.2.2]
    exact h3
  obtain ⟨QF, hQF⟩ : ∃ Q : World → Prop, Q = fun w' => ∃ va vc, Blk w' M (dkC (sendF T upto 40 ⟨m0, g0, f0, l0, t0, s0⟩ []).1 T hv bv gv ov (.slice va (sendF T upto 40 ⟨m0, g0, f0, l0, t0, s0⟩ []).2.1.length vc)) 77 ∧ w'.ownsRow w.heap.size 63 6 (.slice va (sendF T upto 40 ⟨m0, g0, f0, l0, t0, s0⟩ []).2.1.length vc) (sendF T upto 40 ⟨m0, g0, f0, l0, t0, s0⟩ []).2.1.length (pkCells (sendF T upto 40 ⟨m0, g0, f0, l0, t0, s0⟩ []).2.1) := ⟨_, rfl⟩
  rw [← hE]
  suffices hgoal : Calls Tryz.prog 80 #[.pointer (some ⟨M, 0, none⟩), .int .i64 upto] w fun e w' => e = .returned (.int .i64 E) ∧ (E = 0 → QF w') ∧ Kept [M] w w' by
    rw [hQF] at hgoal; exact hgoal
  have HFN : Hid (∀ (w' : World) (n : Nat) (sa : Option Addr) (sc : Nat) (vk : Vw) (a : List Pk), R = (vk, a, 0) → n = a.length → Blk w' M #[.int .i64 vk.m, .int .i64 vk.g, .int .i64 vk.f, .int .i64 vk.l, .int .i64 vk.t, .int .i64 vk.s, .int .i64 tl, .int .i64 tn, .slice ha hn hc, .slice bo bn bc, .int .i64 first, .slice ga ln gc, .slice oa lo oc, .slice sa n sc] 77 → w'.ownsRow base 63 6 (.slice sa n sc) n (pkCells a) → QF w') := by rw [hQF]; exact HFIN
  clear hM hr hst hcu hou hR hE hhn hbn hln hlo htl htn hfi eh eb eg eo hQF HFIN HVAL hbase
  go_enter Tryz.func80, Tryz.ntmps80
  go_wp2_with fail
  go_loopw [] (fun wr => ∃ (k : Nat) (m g f l t s : Int) (a : List Pk) (sa : Option Addr) (n sc : Nat), Hid (Blk wr M #[.int .i64 m, .int .i64 g, .int .i64 f, .int .i64 l, .int .i64 t, .int .i64 s, .int .i64 tl, .int .i64 tn, .slice ha hn hc, .slice bo bn bc, .int .i64 first, .slice ga ln gc, .slice oa lo oc, .slice sa n sc] 77) ∧ Hid (wr.ownsRow base 63 6 (.slice sa n sc) n (pkCells a)) ∧ Hid (n = a.length) ∧ Hid (R = sendF T upto k ⟨m, g, f, l, t, s⟩ a) ∧ Hid (Fuel T.A (g - T.first) f k) ∧ Hid (curE m g f = 0 ∧ outE l t s = 0) ∧ l = l0 + n ∧ Hid (Kept [M] w wr))
    (fun wr => (1000000001 - intOf ((wr.cell? ⟨M, 3, none⟩).getD undef)).toNat)
  case atStart => exact ⟨40, m0, g0, f0, l0, t0, s0, [], none, 0, 0, HM0.out, World.ownsRow_nil _ _ _ _, rfl, HR0.out, .inl (Nat.le_refl _), HCO.out, by simp, Kept.refl _ _⟩
  case round =>
    obtain ⟨k, m, g, f, l, t, s, a, sa, n, sc, HMr, HO, HNA, HR, HF, HC, hln0, HK⟩ := hrel
    clear HM0 HR0 HCO
    obtain ⟨M1, hM1⟩ : ∃ x, x = nxM T.first T.L T.O m g f upto := ⟨_, rfl⟩
    obtain ⟨G1, hG1⟩ : ∃ x, x = nxG T.first T.L T.O m g f upto := ⟨_, rfl⟩
    obtain ⟨F1, hF1⟩ : ∃ x, x = nxF T.first T.L T.O m g f upto := ⟨_, rfl⟩
    obtain ⟨X, hX⟩ : ∃ x, x = nxX T.first T.L T.O m g f upto := ⟨_, rfl⟩
    obtain ⟨K1, hK1⟩ : ∃ x, x = nxK T.first T.L T.O m g f upto := ⟨_, rfl⟩
    obtain ⟨T1, hT1⟩ : ∃ x, x = nxT T.first T.L T.O m g f upto := ⟨_, rfl⟩
    obtain ⟨E1, hE1⟩ : ∃ x, x = nxE T.first T.L T.O m g f upto := ⟨_, rfl⟩
    obtain ⟨xt, hxt⟩ : ∃ x, x = X.time := ⟨_, rfl⟩
    obtain ⟨xk, hxk⟩ : ∃ x, x = X.key := ⟨_, rfl⟩
    have HEE : Hid (E1 = if upto < 0 ∨ 1000000 < upto then 3 else 0) := by
      show E1 = _
      rw [hE1]; unfold nxE; rw [if_pos HST.out, if_pos HC.out.1]
      by_cases h1 : upto < 0
      · rw [if_pos h1, if_pos (.inl h1)]
      · rw [if_neg h1]
        by_cases h2 : 1000000 < upto
        · rw [if_pos h2, if_pos (.inr h2)]
        · rw [if_neg h2, if_neg (by omega)]
    have HBAD : Hid (¬ E1 = 0 → K1 = false) := fun h => by rw [hK1]; exact (nx_bad (by rw [← hE1]; exact h)).2.2.2.2.1
    have HNONE : Hid (E1 = 0 → nxt m T.A (g - T.first) f upto = none → K1 = false) := fun h h2 => by rw [hK1]; exact (nx_none (by rw [← hE1]; exact h) h2).2.2.2.2.1
    have HSOME : Hid (E1 = 0 → ∀ kk j tt, nxt m T.A (g - T.first) f upto = some (kk, j, tt) → M1 = m ∧ G1 = T.first + kk ∧ F1 = (j : Int) + 1 ∧ X = frAt (grAt T.A kk) j ∧ K1 = true ∧ T1 = tt ∧ kk < T.A.length ∧ j < (grAt T.A kk).length) := fun h kk j tt h2 => by
      have q := nx_some (by rw [← hE1]; exact h) h2
      rw [← hM1, ← hG1, ← hF1, ← hX, ← hK1, ← hT1] at q
      exact q
    have HNX : Hid (∀ U, Below wr.heap.size wr U → Calls Tryz.prog 114 #[.agg #[.int .i64 first, .slice ga ln gc, .slice oa lo oc], .agg #[.int .i64 m, .int .i64 g, .int .i64 f], .int .i64 upto] U fun e w' => ∃ pa pn pc, e = .returned (.tuple #[.agg #[.int .i64 M1, .int .i64 G1, .int .i64 F1], .agg #[.int .i64 xt, .bool xk, .slice pa pn pc], .bool K1, .bool T1, .int .i64 E1]) ∧ Hid (StrsIn (fun g => U.heap.size ≤ g) w' (.slice pa pn pc) X.parts) ∧ Below U.heap.size U w') := fun U hU => by
      have tr : TrIn (fun _ => True) U (.slice ha hn hc) (.slice bo bn bc) (.slice ga ln gc) (.slice oa lo oc) T := ((HTr.out.to (HK.out.sameOn (fun g h => by simp; exact h.1)) (fun _ _ h => h)).below hU).mono fun _ _ _ => trivial
      refine (next_any first _ _ T.L T.O m g f upto U tr.2.2.1 tr.2.2.2).mono ?_
      rw [HTT.out.2.2, ← hM1, ← hG1, ← hF1, ← hX, ← hK1, ← hT1, ← hE1, ← hxt, ← hxk]
      rintro e w' ⟨pv, rfl, h1, h2⟩
      obtain ⟨pa, pc, e1⟩ := h1.1.len
      subst e1
      exact ⟨pa, _, pc, rfl, h1, h2⟩
    have HXX : Hid (xt = X.time ∧ xk = X.key) := ⟨hxt, hxk⟩
    have hbw : base ≤ wr.heap.size := by have := HK.out.size; rw [HBS.out]; exact this
    have hm3 : (1000000001 - intOf ((wr.cell? ⟨M, 3, none⟩).getD undef)).toNat = (1000000001 - l).toNat := by
      rw [HMr.out.cell (j := 3) (u := .int .i64 l) rfl]; rfl
    have hln1 : Hid (l = l0 + n) := hln0
    clear hM1 hG1 hF1 hX hK1 hT1 hE1 hxt hxk hln0
    go_upto_region 1 with fail
    refine region_main (by kernel_rfl) (by kernel_rfl) [.quiet (.pointer (some ⟨M, 0, none⟩)), .quiet (.pointer (some ⟨M, 0, none⟩)), .quiet (.pointer (some ⟨M, 6, none⟩)), .quiet (.pointer (some ⟨M, 10, none⟩)), .quiet (.agg #[.int .i64 first, .slice ga ln gc, .slice oa lo oc]), .quiet (.pointer (some ⟨M, 0, none⟩)), .quiet (.pointer (some ⟨M, 0, none⟩)), .quiet (.pointer (some ⟨M, 0, none⟩)), .quiet (.pointer (some ⟨M, 0, none⟩)), .quiet (.agg #[.int .i64 m, .int .i64 g, .int .i64 f]), .quiet (.int .i64 upto), .main, .fin (fun r => r), .fin (exT 0), .fin (exT 1), .fin (exT 2), .fin (exT 3), .fin (exT 4), .box 36 #[.int .i64 0, .int .i64 0, .int .i64 0], .box 98 #[.int .i64 0, .bool false, .slice none 0 0], .put 18 (fun r => aggC (exT 0 r)), .put 19 (fun r => aggC (exT 1 r)), .fin (exT 2), .fin (exT 3), .fin (exT 4)] 11 (by kernel_rfl)
      (fun S r w' => ∃ pa pn pc, r = .tuple #[.agg #[.int .i64 M1, .int .i64 G1, .int .i64 F1], .agg #[.int .i64 xt, .bool xk, .slice pa pn pc], .bool K1, .bool T1, .int .i64 E1] ∧ StrsIn (fun g => S g ∧ wr.heap.size ≤ g) w' (.slice pa pn pc) X.parts) ?loc ?step ?fin
    case loc =>
      rintro S r w1 w3 ⟨pa, pn, pc, rfl, h1⟩ hs hsame
      exact ⟨pa, pn, pc, rfl, h1.to ⟨hs, fun g hg hS => hsame g hS.1 hg⟩ (fun _ _ h => h)⟩
    case step =>
      intro i o ho a' w' r hb hfree hvals
      have f0 : a'.eval (.tmp 0) = .pointer (some ⟨M, 0, none⟩) := (hfree 0 (by kernel_rfl)).trans rfl
      have f1 : a'.eval (.tmp 1) = .int .i64 upto := (hfree 1 (by kernel_rfl)).trans rfl
      obtain ⟨y0, y1, y2, y3, y4, y5, y6, y7, y8, y9, y10, y11, y12, y13⟩ := (HMr.out.below hb HMr.out.lt).fourteen
      match i, ho with
      | 0, ho =>
        simp at ho; subst ho
        show (execOp a'.eval _).run _ w' = .ok (.value _) w'
        generalize a'.eval = ρ at *
        simp [execOp, go_sem, f0]
      | 1, ho =>
        simp at ho; subst ho
        have e13 : a'.eval (.tmp 13) = .pointer (some ⟨M, 0, none⟩) := hvals 0 _ (by kernel_rfl) rfl
        show (execOp a'.eval _).run _ w' = .ok (.value _) w'
        generalize a'.eval = ρ at *
        simp [execOp, go_sem, e13]
      | 2, ho =>
        simp at ho; subst ho
        have e14 : a'.eval (.tmp 14) = .pointer (some ⟨M, 0, none⟩) := hvals 1 _ (by kernel_rfl) rfl
        show (execOp a'.eval _).run _ w' = .ok (.value _) w'
        generalize a'.eval = ρ at *
        simp [execOp, go_sem, e14]
      | 3, ho =>
        simp at ho; subst ho
        have e15 : a'.eval (.tmp 15) = .pointer (some ⟨M, 6, none⟩) := hvals 2 _ (by kernel_rfl) rfl
        show (execOp a'.eval _).run _ w' = .ok (.value _) w'
        generalize a'.eval = ρ at *
        simp [execOp, go_sem, e15]
      | 4, ho =>
        simp at ho; subst ho
        have e16 : a'.eval (.tmp 16) = .pointer (some ⟨M, 10, none⟩) := hvals 3 _ (by kernel_rfl) rfl
        show (execOp a'.eval _).run _ w' = .ok (.value _) w'
        generalize a'.eval = ρ at *
        simp [execOp, go_sem, e16, y10, y11, y12]
      | 5, ho =>
        simp at ho; subst ho
        show (execOp a'.eval _).run _ w' = .ok (.value _) w'
        generalize a'.eval = ρ at *
        simp [execOp, go_sem, f0]
      | 6, ho =>
        simp at ho; subst ho
        have e18 : a'.eval (.tmp 18) = .pointer (some ⟨M, 0, none⟩) := hvals 5 _ (by kernel_rfl) rfl
        show (execOp a'.eval _).run _ w' = .ok (.value _) w'
        generalize a'.eval = ρ at *
        simp [execOp, go_sem, e18]
      | 7, ho =>
        simp at ho; subst ho
        have e19 : a'.eval (.tmp 19) = .pointer (some ⟨M, 0, none⟩) := hvals 6 _ (by kernel_rfl) rfl
        show (execOp a'.eval _).run _ w' = .ok (.value _) w'
        generalize a'.eval = ρ at *
        simp [execOp, go_sem, e19]
      | 8, ho =>
        simp at ho; subst ho
        have e20 : a'.eval (.tmp 20) = .pointer (some ⟨M, 0, none⟩) := hvals 7 _ (by kernel_rfl) rfl
        show (execOp a'.eval _).run _ w' = .ok (.value _) w'
        generalize a'.eval = ρ at *
        simp [execOp, go_sem, e20]
      | 9, ho =>
        simp at ho; subst ho
        have e21 : a'.eval (.tmp 21) = .pointer (some ⟨M, 0, none⟩) := hvals 8 _ (by kernel_rfl) rfl
        show (execOp a'.eval _).run _ w' = .ok (.value _) w'
        generalize a'.eval = ρ at *
        simp [execOp, go_sem, e21, y0, y1, y2]
      | 10, ho =>
        simp at ho; subst ho
        show (execOp a'.eval _).run _ w' = .ok (.value _) w'
        generalize a'.eval = ρ at *
        simp [execOp, go_sem, f1]
      | 11, ho =>
        simp at ho; subst ho
        have e17 : a'.eval (.tmp 17) = .agg #[.int .i64 first, .slice ga ln gc, .slice oa lo oc] := hvals 4 _ (by kernel_rfl) rfl
        have e22 : a'.eval (.tmp 22) = .agg #[.int .i64 m, .int .i64 g, .int .i64 f] := hvals 9 _ (by kernel_rfl) rfl
        have e23 : a'.eval (.tmp 23) = .int .i64 upto := hvals 10 _ (by kernel_rfl) rfl
        have ef : a'.eval (.func 114) = .func (.func 114) #[] #[] := rfl
        show ∃ f args, (execOp a'.eval _).run _ w' = .ok (.enter f args) w' ∧ _
        generalize a'.eval = ρ at *
        refine ⟨114, #[.agg #[.int .i64 first, .slice ga ln gc, .slice oa lo oc], .agg #[.int .i64 m, .int .i64 g, .int .i64 f], .int .i64 upto], by simp [execOp, go_sem, e17, e22, e23, ef], ?_⟩
        refine (HNX.out w' hb).mono ?_
        rintro e w'' ⟨pa, pn, pc, rfl, h1, hb4⟩
        exact ⟨_, rfl, ⟨pa, pn, pc, rfl, h1.out.mono (fun g hl hg => ⟨⟨hl, .inr hg⟩, (by have := hb.size; omega)⟩)⟩, hb4⟩
      | 12, ho =>
        simp at ho; subst ho
        have e24 : a'.eval (.tmp 24) = r := hvals 11 _ (by kernel_rfl) rfl
        show ∀ S, _ → (execOp a'.eval _).run _ w' = .ok (.value _) w'
        rintro S ⟨pa, pn, pc, rfl, _⟩
        try simp only [exT] at e24
        generalize a'.eval = ρ at *
        simp [execOp, go_sem, e24]
      | 13, ho =>
        simp at ho; subst ho
        have e12 : a'.eval (.tmp 12) = r := hvals 12 _ (by kernel_rfl) rfl
        show ∀ S, _ → (execOp a'.eval _).run _ w' = .ok (.value _) w'
        rintro S ⟨pa, pn, pc, rfl, _⟩
        try simp only [exT] at e12
        generalize a'.eval = ρ at *
        simp [execOp, go_sem, e12, exT]
      | 14, ho =>
        simp at ho; subst ho
        have e12 : a'.eval (.tmp 12) = r := hvals 12 _ (by kernel_rfl) rfl
        show ∀ S, _ → (execOp a'.eval _).run _ w' = .ok (.value _) w'
        rintro S ⟨pa, pn, pc, rfl, _⟩
        try simp only [exT] at e12
        generalize a'.eval = ρ at *
        simp [execOp, go_sem, e12, exT]
      | 15, ho =>
        simp at ho; subst ho
        have e12 : a'.eval (.tmp 12) = r := hvals 12 _ (by kernel_rfl) rfl
        show ∀ S, _ → (execOp a'.eval _).run _ w' = .ok (.value _) w'
        rintro S ⟨pa, pn, pc, rfl, _⟩
        try simp only [exT] at e12
        generalize a'.eval = ρ at *
        simp [execOp, go_sem, e12, exT]
      | 16, ho =>
        simp at ho; subst ho
        have e12 : a'.eval (.tmp 12) = r := hvals 12 _ (by kernel_rfl) rfl
        show ∀ S, _ → (execOp a'.eval _).run _ w' = .ok (.value _) w'
        rintro S ⟨pa, pn, pc, rfl, _⟩
        try simp only [exT] at e12
        generalize a'.eval = ρ at *
        simp [execOp, go_sem, e12, exT]
      | 17, ho =>
        simp at ho; subst ho
        have e12 : a'.eval (.tmp 12) = r := hvals 12 _ (by kernel_rfl) rfl
        show ∀ S, _ → (execOp a'.eval _).run _ w' = .ok (.value _) w'
        rintro S ⟨pa, pn, pc, rfl, _⟩
        try simp only [exT] at e12
        generalize a'.eval = ρ at *
        simp [execOp, go_sem, e12, exT]
      | 18, ho =>
        simp at ho; subst ho
        show (execOp a'.eval _).run _ w' = .ok (.value _) _
        generalize a'.eval = ρ at *
        simp [execOp, go_sem]
      | 19, ho =>
        simp at ho; subst ho
        show (execOp a'.eval _).run _ w' = .ok (.value _) _
        generalize a'.eval = ρ at *
        simp [execOp, go_sem]
      | 20, ho =>
        simp at ho; subst ho
        have e25 : a'.eval (.tmp 25) = (exT 0) r := hvals 13 _ (by kernel_rfl) rfl
        show ∀ S, _ → ∀ t z g C, _ → _ → _ → _ → ∃ w'', (execOp a'.eval _).run _ w' = .ok .skip w'' ∧ _
        rintro S ⟨pa, pn, pc, rfl, _⟩ t z g C hz hC hs (eb : a'.eval (.tmp 5) = _)
        cases hz
        obtain ⟨u0, u1, u2, q0, q1, q2⟩ := cells3 hC hs
        have p0 := hC.free 0
        have p1 := hC.free 1
        have p2 := hC.free 2
        obtain ⟨m1, m2, m3⟩ := set3 hC hs (.int .i64 M1) (.int .i64 G1) (.int .i64 F1)
        simp only [exT] at e25
        generalize a'.eval = ρ at *
        exact ⟨_, by simp [execOp, go_sem, e25, eb, q0, q1, q2, p0, p1, p2], m1, m2, rfl, m3, rfl, rfl, rfl⟩
      | 21, ho =>
        simp at ho; subst ho
        have e26 : a'.eval (.tmp 26) = (exT 1) r := hvals 14 _ (by kernel_rfl) rfl
        show ∀ S, _ → ∀ t z g C, _ → _ → _ → _ → ∃ w'', (execOp a'.eval _).run _ w' = .ok .skip w'' ∧ _
        rintro S ⟨pa, pn, pc, rfl, _⟩ t z g C hz hC hs (eb : a'.eval (.tmp 6) = _)
        cases hz
        obtain ⟨u0, u1, u2, q0, q1, q2⟩ := cells3 hC hs
        have p0 := hC.free 0
        have p1 := hC.free 1
        have p2 := hC.free 2
        obtain ⟨m1, m2, m3⟩ := set3 hC hs (.int .i64 xt) (.bool xk) (.slice pa pn pc)
        simp only [exT] at e26
        generalize a'.eval = ρ at *
        exact ⟨_, by simp [execOp, go_sem, e26, eb, q0, q1, q2, p0, p1, p2], m1, m2, rfl, m3, rfl, rfl, rfl⟩
      | 22, ho =>
        simp at ho; subst ho
        have e27 : a'.eval (.tmp 27) = (exT 2) r := hvals 15 _ (by kernel_rfl) rfl
        show ∀ S, _ → (execOp a'.eval _).run _ w' = .ok (.value _) w'
        rintro S ⟨pa, pn, pc, rfl, _⟩
        try simp only [exT] at e27
        generalize a'.eval = ρ at *
        simp [execOp, go_sem, e27, exT]
      | 23, ho =>
        simp at ho; subst ho
        have e28 : a'.eval (.tmp 28) = (exT 3) r := hvals 16 _ (by kernel_rfl) rfl
        show ∀ S, _ → (execOp a'.eval _).run _ w' = .ok (.value _) w'
        rintro S ⟨pa, pn, pc, rfl, _⟩
        try simp only [exT] at e28
        generalize a'.eval = ρ at *
        simp [execOp, go_sem, e28, exT]
      | 24, ho =>
        simp at ho; subst ho
        have e29 : a'.eval (.tmp 29) = (exT 4) r := hvals 17 _ (by kernel_rfl) rfl
        show ∀ S, _ → (execOp a'.eval _).run _ w' = .ok (.value _) w'
        rintro S ⟨pa, pn, pc, rfl, _⟩
        try simp only [exT] at e29
        generalize a'.eval = ρ at *
        simp [execOp, go_sem, e29, exT]
      | i + 25, ho => simp at ho
    case fin =>
      rintro r gs Sr W hb ⟨pa, pn, pc, rfl, h1⟩ hS hbox hap
      obtain ⟨p1, p2, C, p3, p4⟩ := hbox 18 _ _ (by decide) rfl
      have p5 := p4 20 _ (by decide) rfl
      subst p5
      obtain ⟨o1, o2, C', o3, o4⟩ := hbox 19 _ _ (by decide) rfl
      have o5 := o4 21 _ (by decide) rfl
      subst o5
      have KP : Hid (Blk W (gs 18) #[.int .i64 M1, .int .i64 G1, .int .i64 F1] 36) := p3
      have KQ : Hid (Blk W (gs 19) #[.int .i64 xt, .bool xk, .slice pa pn pc] 98) := o3
      simp only [putK, Kd.out, exT, Act.put, List.setIfInBounds_toArray, List.set_cons_succ, List.set_cons_zero, List.getElem?_toArray, List.getElem?_cons_zero, List.getElem?_cons_succ, Option.getD_some]
      obtain ⟨p, hp⟩ : ∃ p, p = gs 18 := ⟨_, rfl⟩
      obtain ⟨q, hq⟩ : ∃ p, p = gs 19 := ⟨_, rfl⟩
      rw [← hp] at KP p1
      rw [← hq] at KQ o1
      rw [← hp, ← hq]
      have HBW : Hid (Below wr.heap.size wr W) := hb
      have H1 : Hid (StrsIn (fun g => wr.heap.size ≤ g) W (.slice pa pn pc) X.parts) := h1.mono fun _ _ h => h.2
      have hMr := HMr.out.lt
      have hpM : ¬ p = M := by omega
      have hqM : ¬ q = M := by omega
      clear hp hq h1 hS hbox hap p2 p3 p4 o2 o3 o4 hb HNX
      have HM2 : Hid (Blk W M #[.int .i64 m, .int .i64 g, .int .i64 f, .int .i64 l, .int .i64 t, .int .i64 s, .int .i64 tl, .int .i64 tn, .slice ha hn hc, .slice bo bn bc, .int .i64 first, .slice ga ln gc, .slice oa lo oc, .slice sa n sc] 77) := HMr.out.below HBW.out HMr.out.lt
      have HK2 : Hid (Kept [M] w W) := HK.out.below HBW.out
      have HO2 : Hid (W.ownsRow base 63 6 (.slice sa n sc) n (pkCells a)) := owns_below HO.out HBW.out (Nat.le_refl _)
      have hbW : base ≤ W.heap.size := Nat.le_trans hbw HBW.out.size
      clear HMr HK HO HBW p1 o1 hMr
      by_cases hE1 : E1 = 0
      case neg =>
        have hk := HBAD.out hE1
        have hEE : Hid (E = E1) := by
          have h1 := HEE.out
          have h2 := HE0.out
          by_cases hu : upto < 0 ∨ 1000000 < upto
          · rw [if_pos hu] at h1 h2; show E = E1; rw [h1, h2]
          · rw [if_neg hu] at h1; exact absurd h1 hE1
        have HN0 : Hid (¬ E = 0) := by show ¬ E = 0; rw [hEE.out]; exact hE1
        subst hk
        clear HBAD HNONE HSOME HEE HE0 HFN HR HF HC HM2 HO2 KP KQ H1
        go_wp2_with fail
        go_ret
        exact ⟨by rw [hEE.out]; rfl, fun h => absurd h HN0.out, HK2.out⟩
      have hup : ¬ (upto < 0 ∨ 1000000 < upto) := fun h => by
        have h1 := HEE.out
        rw [if_pos h] at h1; omega
      have HER : Hid (E = R.2.2) := by show E = _; rw [HE0.out, if_neg hup]
      have HNO : Hid (nxt m T.A (g - T.first) f upto = none → K1 = false) := HNONE.out hE1
      have HSO : Hid (∀ kk j tt, nxt m T.A (g - T.first) f upto = some (kk, j, tt) → M1 = m ∧ G1 = T.first + kk ∧ F1 = (j : Int) + 1 ∧ X = frAt (grAt T.A kk) j ∧ K1 = true ∧ T1 = tt ∧ kk < T.A.length ∧ j < (grAt T.A kk).length) := HSOME.out hE1
      clear HBAD HNONE HSOME HEE HE0 hup
      subst hE1
      obtain ⟨N, hN⟩ : ∃ N, N = nxt m T.A (g - T.first) f upto := ⟨_, rfl⟩
      cases N with
      | none =>
        have hk := HNO.out hN.symm
        have hRR : Hid (R = (⟨m, g, f, l, t, s⟩, a, 0)) := by show R = _; rw [HR.out, sendF_none hN.symm]
        have hE9 : Hid (E = 0) := by show E = 0; rw [HER.out, hRR.out]
        have HQ9 : Hid (QF W) := HFN.out W n sa sc ⟨m, g, f, l, t, s⟩ a hRR.out HNA.out HM2.out HO2.out
        subst hk
        clear HNO HSO HFN HR HF HC HM2 HO2 KP KQ H1 hN HER
        go_wp2_with fail
        go_ret
        exact ⟨by rw [hE9.out]; rfl, fun _ => HQ9.out, HK2.out⟩
      | some pp =>
        obtain ⟨kk, j, tt⟩ := pp
        obtain ⟨q1, q2, q3, q4, q5, q6, q7, q8⟩ := HSO.out kk j tt hN.symm
        obtain ⟨k', hk', HFu, hkA, hjA, hj0⟩ := fuel_step (v := ⟨m, g, f, l, t, s⟩) HST.out HF.out hN.symm
        simp only at HFu hkA hjA hj0
        obtain ⟨tn9, htn9⟩ : ∃ b, b = (tt || f == 0) := ⟨_, rfl⟩
        obtain ⟨O1, hO1⟩ : ∃ x, x = (sdO l t s X tn9).1 := ⟨_, rfl⟩
        obtain ⟨O2, hO2⟩ : ∃ x, x = (sdO l t s X tn9).2.1 := ⟨_, rfl⟩
        obtain ⟨O3, hO3⟩ : ∃ x, x = (sdO l t s X tn9).2.2 := ⟨_, rfl⟩
        obtain ⟨P, hP⟩ : ∃ x, x = sdP l t s X tn9 := ⟨_, rfl⟩
        obtain ⟨E2, hE2⟩ : ∃ x, x = sdE l t s X tn9 := ⟨_, rfl⟩
        obtain ⟨nP, hnP⟩ : ∃ x, x = P.length := ⟨_, rfl⟩
        have HRs : Hid (R = if E2 = 0 then sendF T upto k' ⟨M1, G1, F1, O1, O2, O3⟩ (a ++ P) else (Vw.zero, [], E2)) := by
          have h1 := HR.out
          rw [hk', sendF_some hN.symm] at h1
          simp only at h1
          rw [← q4, ← htn9, ← hE2, ← hP] at h1
          show R = _
          rw [h1]
          simp only [Vw.sent]
          rw [q1, q2, q3, hO1, hO2, hO3]
        have HGD : Hid (E2 = 0 → outE O1 O2 O3 = 0 ∧ O1 = l + nP ∧ 0 < nP) := fun h => by
          rw [hE2] at h
          obtain ⟨r1, r2, r3, r4, r5⟩ := sdO_right h
          rw [hO1, hO2, hO3, hnP, hP, r4]
          refine ⟨r1, ?_, ?_⟩
          · rw [r3]; unfold pksOf; rw [pksK_len]
          · unfold pksOf; rw [pksK_len]; exact r5
        have HC2 : Hid (curE M1 G1 F1 = 0) := by
          have := curE_step (T := T) (v := ⟨m, g, f, l, t, s⟩) HST.out HC.out.1 hkA hjA
          show curE _ _ _ = 0
          rw [q1, q2, q3]; exact this
        have HF2 : Hid (Fuel T.A (G1 - T.first) F1 k') := by show Fuel _ _ _ _; rw [q2, q3]; exact HFu
        have HSD : Hid (∀ U, Below W.heap.size W U → Calls Tryz.prog 54 #[.agg #[.int .i64 l, .int .i64 t, .int .i64 s], .agg #[.int .i64 xt, .bool xk, .slice pa pn pc], .bool tn9] U fun e w' => ∃ qa qc, e = .returned (.tuple #[.agg #[.int .i64 O1, .int .i64 O2, .int .i64 O3], .slice qa nP qc, .int .i64 E2]) ∧ Hid (PksIn (fun g => U.heap.size ≤ g) w' (.slice qa nP qc) P) ∧ Below U.heap.size U w') := fun U hU => by
          rw [HXX.out.1, HXX.out.2]
          refine (outSend_any l t s X _ tn9 U ((H1.out.mono fun _ _ _ => trivial).below hU)).mono ?_
          rw [← hO1, ← hO2, ← hO3, ← hP, ← hE2, ← hnP]
          rintro e w' ⟨v', rfl, h1, h2⟩
          obtain ⟨qa, qc, e1, _⟩ := owns_cap h1
          subst e1
          have h1' : w'.ownsRow U.heap.size 63 6 (.slice qa nP qc) P.length (pkCells P) := by rw [← hnP]; exact h1
          exact ⟨qa, qc, rfl, PksIn.of_owns h1', h2⟩
        have HJS : Hid (∀ U, Below W.heap.size W U → Calls Tryz.prog 115 #[.pointer (some ⟨M, 0, none⟩)] U fun e w' => e = .returned (.bool (f == 0)) ∧ Below U.heap.size U w') := fun U hU => justSet_any M m g f _ _ _ _ _ _ _ _ _ _ _ U (HM2.out.below hU HM2.out.lt)
        have HNP : Hid (nP = P.length) := hnP
        have HTN : Hid (tn9 = (tt || f == 0)) := htn9
        have HTT1 : Hid (T1 = tt) := q6
        subst q5
        have HQ2 : Hid (Blk W q #[.int .i64 xt, .bool xk, .slice pa pn pc] 98) := KQ
        clear HNO HSO HR HF hN hk' HFu hkA hjA hj0 htn9 hO1 hO2 hO3 hP hE2 hnP q1 q2 q3 q4 q6 q7 q8 H1 KQ
        cases T1
        case true =>
          have h9 : tn9 = true := by rw [HTN.out, ← HTT1.out]; rfl
          clear HTN HTT1 HJS
          subst h9
          go_upto_region 4 with fail
          refine region_mainG (by kernel_rfl) (by kernel_rfl) [.quiet (.pointer (some ⟨M, 0, none⟩)), .quiet (.pointer (some ⟨M, 0, none⟩)), .quiet (.pointer (some ⟨M, 0, none⟩)), .quiet (.pointer (some ⟨M, 3, none⟩)), .quiet (.agg #[.int .i64 l, .int .i64 t, .int .i64 s]), .quiet (.agg #[.int .i64 xt, .bool xk, .slice pa pn pc]), .quiet (.bool true), .quiet (.bool true), .quiet undef, .quiet undef, .quiet (.bool true), .main, .fin (fun r => r), .fin (exT 0), .fin (exT 1), .fin (exT 2), .box 38 #[.int .i64 0, .int .i64 0, .int .i64 0], .put 16 (fun r => aggC (exT 0 r)), .fin (exT 1), .fin (exT 2)] 11 (by kernel_rfl)
            (fun S r w' => ∃ qa qc, r = .tuple #[.agg #[.int .i64 O1, .int .i64 O2, .int .i64 O3], .slice qa nP qc, .int .i64 E2] ∧ PksIn (fun g => S g ∧ W.heap.size ≤ g) w' (.slice qa nP qc) P) ?loc ?step ?fin
          case loc =>
            rintro S r w1 w3 ⟨qa, qc, rfl, h1⟩ hs hsame
            exact ⟨qa, qc, rfl, h1.to ⟨hs, fun g hg hS => hsame g hS.1 hg⟩ (fun _ _ h => h)⟩
          case step =>
            intro i o ho a' w' r hb hfree hvals
            have f0 : a'.eval (.tmp 0) = .pointer (some ⟨M, 0, none⟩) := (hfree 0 (by kernel_rfl)).trans rfl
            have f6 : a'.eval (.tmp 6) = .pointer (some ⟨q, 0, none⟩) := (hfree 6 (by kernel_rfl)).trans rfl
            have f8 : a'.eval (.tmp 8) = .bool true := (hfree 8 (by kernel_rfl)).trans rfl
            obtain ⟨y0, y1, y2, y3, y4, y5, y6, y7, y8, y9, y10, y11, y12, y13⟩ := (HM2.out.below hb HM2.out.lt).fourteen
            obtain ⟨j0, j1, j2⟩ := (HQ2.out.below hb HQ2.out.lt).three
            match i, ho with
            | 0, ho =>
              simp at ho; subst ho
              refine .inr ⟨rfl, ?_⟩
              show (execOp a'.eval _).run _ w' = .ok (.value _) w'
              generalize a'.eval = ρ at *
              simp [execOp, go_sem, f0]
            | 1, ho =>
              simp at ho; subst ho
              refine .inr ⟨rfl, ?_⟩
              have e34 : a'.eval (.tmp 34) = .pointer (some ⟨M, 0, none⟩) := hvals 0 _ (by kernel_rfl) rfl
              show (execOp a'.eval _).run _ w' = .ok (.value _) w'
              generalize a'.eval = ρ at *
              simp [execOp, go_sem, e34]
            | 2, ho =>
              simp at ho; subst ho
              refine .inr ⟨rfl, ?_⟩
              have e35 : a'.eval (.tmp 35) = .pointer (some ⟨M, 0, none⟩) := hvals 1 _ (by kernel_rfl) rfl
              show (execOp a'.eval _).run _ w' = .ok (.value _) w'
              generalize a'.eval = ρ at *
              simp [execOp, go_sem, e35]
            | 3, ho =>
              simp at ho; subst ho
              refine .inr ⟨rfl, ?_⟩
              have e36 : a'.eval (.tmp 36) = .pointer (some ⟨M, 0, none⟩) := hvals 2 _ (by kernel_rfl) rfl
              show (execOp a'.eval _).run _ w' = .ok (.value _) w'
              generalize a'.eval = ρ at *
              simp [execOp, go_sem, e36]
            | 4, ho =>
              simp at ho; subst ho
              refine .inr ⟨rfl, ?_⟩
              have e37 : a'.eval (.tmp 37) = .pointer (some ⟨M, 3, none⟩) := hvals 3 _ (by kernel_rfl) rfl
              show (execOp a'.eval _).run _ w' = .ok (.value _) w'
              generalize a'.eval = ρ at *
              simp [execOp, go_sem, e37, y3, y4, y5]
            | 5, ho =>
              simp at ho; subst ho
              refine .inr ⟨rfl, ?_⟩
              show (execOp a'.eval _).run _ w' = .ok (.value _) w'
              generalize a'.eval = ρ at *
              simp [execOp, go_sem, f6, j0, j1, j2]
            | 6, ho =>
              simp at ho; subst ho
              refine .inr ⟨rfl, ?_⟩
              show (execOp a'.eval _).run _ w' = .ok (.value _) w'
              generalize a'.eval = ρ at *
              simp [execOp, go_sem, f8]
            | 7, ho =>
              simp at ho; subst ho
              refine .inr ⟨rfl, ?_⟩
              have e40 : a'.eval (.tmp 40) = .bool true := hvals 6 _ (by kernel_rfl) rfl
              show (execOp a'.eval _).run _ w' = .ok (.value _) w'
              generalize a'.eval = ρ at *
              simp [execOp, go_sem, e40]
            | 8, ho =>
              simp at ho; subst ho
              have hg : a'.eval (.tmp 41) = .bool true := hvals 7 _ (by kernel_rfl) rfl
              have hy := tmps_of hg
              exact .inl ⟨by simp [Region.wanted, yielded, hy], rfl⟩
            | 9, ho =>
              simp at ho; subst ho
              have hg : a'.eval (.tmp 41) = .bool true := hvals 7 _ (by kernel_rfl) rfl
              have hy := tmps_of hg
              exact .inl ⟨by simp [Region.wanted, yielded, hy], rfl⟩
            | 10, ho =>
              simp at ho; subst ho
              refine .inr ⟨rfl, ?_⟩
              have ec : ∀ v, a'.eval (.const v) = v := fun _ => rfl
              have e41 : a'.eval (.tmp 41) = .bool true := hvals 7 _ (by kernel_rfl) rfl
              have e43 : a'.eval (.tmp 43) = undef := hvals 9 _ (by kernel_rfl) rfl
              show (execOp a'.eval _).run _ w' = .ok (.value _) w'
              generalize a'.eval = ρ at *
              simp [execOp, go_sem, ec, e41, e43]
            | 11, ho =>
              simp at ho; subst ho
              refine .inr ⟨rfl, ?_⟩
              have e38 : a'.eval (.tmp 38) = .agg #[.int .i64 l, .int .i64 t, .int .i64 s] := hvals 4 _ (by kernel_rfl) rfl
              have e39 : a'.eval (.tmp 39) = .agg #[.int .i64 xt, .bool xk, .slice pa pn pc] := hvals 5 _ (by kernel_rfl) rfl
              have e44 : a'.eval (.tmp 44) = .bool true := hvals 10 _ (by kernel_rfl) rfl
              have ef : a'.eval (.func 54) = .func (.func 54) #[] #[] := rfl
              show ∃ f args, (execOp a'.eval _).run _ w' = .ok (.enter f args) w' ∧ _
              generalize a'.eval = ρ at *
              refine ⟨54, #[.agg #[.int .i64 l, .int .i64 t, .int .i64 s], .agg #[.int .i64 xt, .bool xk, .slice pa pn pc], .bool true], by simp [execOp, go_sem, e38, e39, e44, ef], ?_⟩
              refine (HSD.out w' hb).mono ?_
              rintro e w'' ⟨qa, qc, rfl, h1, hb4⟩
              exact ⟨_, rfl, ⟨qa, qc, rfl, h1.out.mono (fun g hl hg => ⟨⟨hl, .inr hg⟩, (by have := hb.size; omega)⟩)⟩, hb4⟩
            | 12, ho =>
              simp at ho; subst ho
              refine .inr ⟨rfl, ?_⟩
              have e45 : a'.eval (.tmp 45) = r := hvals 11 _ (by kernel_rfl) rfl
              show ∀ S, _ → (execOp a'.eval _).run _ w' = .ok (.value _) w'
              rintro S ⟨qa, qc, rfl, _⟩
              try simp only [exT] at e45
              generalize a'.eval = ρ at *
              simp [execOp, go_sem, e45]
            | 13, ho =>
              simp at ho; subst ho
              refine .inr ⟨rfl, ?_⟩
              have e33 : a'.eval (.tmp 33) = r := hvals 12 _ (by kernel_rfl) rfl
              show ∀ S, _ → (execOp a'.eval _).run _ w' = .ok (.value _) w'
              rintro S ⟨qa, qc, rfl, _⟩
              try simp only [exT] at e33
              generalize a'.eval = ρ at *
              simp [execOp, go_sem, e33, exT]
            | 14, ho =>
              simp at ho; subst ho
              refine .inr ⟨rfl, ?_⟩
              have e33 : a'.eval (.tmp 33) = r := hvals 12 _ (by kernel_rfl) rfl
              show ∀ S, _ → (execOp a'.eval _).run _ w' = .ok (.value _) w'
              rintro S ⟨qa, qc, rfl, _⟩
              try simp only [exT] at e33
              generalize a'.eval = ρ at *
              simp [execOp, go_sem, e33, exT]
            | 15, ho =>
              simp at ho; subst ho
              refine .inr ⟨rfl, ?_⟩
              have e33 : a'.eval (.tmp 33) = r := hvals 12 _ (by kernel_rfl) rfl
              show ∀ S, _ → (execOp a'.eval _).run _ w' = .ok (.value _) w'
              rintro S ⟨qa, qc, rfl, _⟩
              try simp only [exT] at e33
              generalize a'.eval = ρ at *
              simp [execOp, go_sem, e33, exT]
            | 16, ho =>
              simp at ho; subst ho
              refine .inr ⟨rfl, ?_⟩
              show (execOp a'.eval _).run _ w' = .ok (.value _) _
              generalize a'.eval = ρ at *
              simp [execOp, go_sem]
            | 17, ho =>
              simp at ho; subst ho
              refine .inr ⟨rfl, ?_⟩
              have e46 : a'.eval (.tmp 46) = (exT 0) r := hvals 13 _ (by kernel_rfl) rfl
              show ∀ S, _ → ∀ t z g C, _ → _ → _ → _ → ∃ w'', (execOp a'.eval _).run _ w' = .ok .skip w'' ∧ _
              rintro S ⟨qa, qc, rfl, _⟩ t z g C hz hC hs (eb : a'.eval (.tmp 10) = _)
              cases hz
              obtain ⟨u0, u1, u2, q0, q1, q2⟩ := cells3 hC hs
              have p0 := hC.free 0
              have p1 := hC.free 1
              have p2 := hC.free 2
              obtain ⟨m1, m2, m3⟩ := set3 hC hs (.int .i64 O1) (.int .i64 O2) (.int .i64 O3)
              simp only [exT] at e46
              generalize a'.eval = ρ at *
              exact ⟨_, by simp [execOp, go_sem, e46, eb, q0, q1, q2, p0, p1, p2], m1, m2, rfl, m3, rfl, rfl, rfl⟩
            | 18, ho =>
              simp at ho; subst ho
              refine .inr ⟨rfl, ?_⟩
              have e47 : a'.eval (.tmp 47) = (exT 1) r := hvals 14 _ (by kernel_rfl) rfl
              show ∀ S, _ → (execOp a'.eval _).run _ w' = .ok (.value _) w'
              rintro S ⟨qa, qc, rfl, _⟩
              try simp only [exT] at e47
              generalize a'.eval = ρ at *
              simp [execOp, go_sem, e47, exT]
            | 19, ho =>
              simp at ho; subst ho
              refine .inr ⟨rfl, ?_⟩
              have e48 : a'.eval (.tmp 48) = (exT 2) r := hvals 15 _ (by kernel_rfl) rfl
              show ∀ S, _ → (execOp a'.eval _).run _ w' = .ok (.value _) w'
              rintro S ⟨qa, qc, rfl, _⟩
              try simp only [exT] at e48
              generalize a'.eval = ρ at *
              simp [execOp, go_sem, e48, exT]
            | i + 20, ho => simp at ho
          case fin =>
            rintro r gs Sr W4 hb ⟨qa, qc, rfl, h1⟩ hS hbox hap
            obtain ⟨p1, p2, C, p3, p4⟩ := hbox 16 _ _ (by decide) rfl
            have p5 := p4 17 _ (by decide) rfl
            subst p5
            have KO : Hid (Blk W4 (gs 16) #[.int .i64 O1, .int .i64 O2, .int .i64 O3] 38) := p3
            simp only [putK, Kd.out, exT, Act.put, List.setIfInBounds_toArray, List.set_cons_succ, List.set_cons_zero, List.getElem?_toArray, List.getElem?_cons_zero, List.getElem?_cons_succ, Option.getD_some]
            obtain ⟨o, ho⟩ : ∃ p, p = gs 16 := ⟨_, rfl⟩
            rw [← ho] at KO p1
            rw [← ho]
            have HBW : Hid (Below W.heap.size W W4) := hb
            have HQP : Hid (PksIn (fun g => W.heap.size ≤ g) W4 (.slice qa nP qc) P) := h1.mono fun _ _ h => h.2
            have hMr := HM2.out.lt
            have hoM : ¬ o = M := by omega
            clear ho h1 hS hbox hap p2 p3 p4 hb HSD HQ2
            have HM4 : Hid (Blk W4 M #[.int .i64 m, .int .i64 g, .int .i64 f, .int .i64 l, .int .i64 t, .int .i64 s, .int .i64 tl, .int .i64 tn, .slice ha hn hc, .slice bo bn bc, .int .i64 first, .slice ga ln gc, .slice oa lo oc, .slice sa n sc] 77) := HM2.out.below HBW.out HM2.out.lt
            have HK4 : Hid (Kept [M] w W4) := HK2.out.below HBW.out
            have HO4' : Hid (W4.ownsRow base 63 6 (.slice sa n sc) n (pkCells a)) := owns_below HO2.out HBW.out (Nat.le_refl _)
            have HP4 : Hid (Blk W4 p #[.int .i64 M1, .int .i64 G1, .int .i64 F1] 36) := KP.out.below HBW.out KP.out.lt
            have HO4 : Hid (Blk W4 o #[.int .i64 O1, .int .i64 O2, .int .i64 O3] 38) := KO
            have hbW4 : base ≤ W4.heap.size := Nat.le_trans hbW HBW.out.size
            have HbW : Hid (base ≤ W.heap.size) := hbW
            clear HM2 HK2 HO2 KP KO HBW p1 hMr hbW
            by_cases hE2 : E2 = 0
            case neg =>
              have hRR : Hid (R = (Vw.zero, [], E2)) := by
                have := HRs.out
                rw [if_neg hE2] at this; exact this
              have hE9 : Hid (E = E2) := by show E = E2; rw [HER.out, hRR.out]
              have HN0 : Hid (¬ E = 0) := by show ¬ E = 0; rw [hE9.out]; exact hE2
              clear HRs HGD HC2 HF2 HFN HM4 HO4' HP4 HO4 HQP HC HER
              go_wp2_with fail
              go_ret
              exact ⟨by rw [hE9.out]; rfl, fun h => absurd h HN0.out, HK4.out⟩
            obtain ⟨g1, g2, g3⟩ := HGD.out hE2
            have HR9 : Hid (R = sendF T upto k' ⟨M1, G1, F1, O1, O2, O3⟩ (a ++ P)) := by
              have := HRs.out
              rw [if_pos hE2] at this; exact this
            have HO9 : Hid (outE O1 O2 O3 = 0) := g1
            have HL9 : Hid (O1 = l + nP ∧ 0 < nP) := ⟨g2, g3⟩
            clear HGD HRs g1 g2 g3
            subst hE2
            obtain ⟨W, hWW⟩ : ∃ X, X = W4 := ⟨_, rfl⟩
            subst hWW
            go_upto_region 7 with fail
            refine region_chainG (by kernel_rfl) (by kernel_rfl) [.quiet (.pointer (some ⟨M, 0, none⟩)) 2, .quiet (.pointer (some ⟨M, 0, none⟩)) 2, .quiet (.agg #[.int .i64 M1, .int .i64 G1, .int .i64 F1]) 2, .quiet (.agg #[.int .i64 O1, .int .i64 O2, .int .i64 O3]) 2, .quiet (.pointer (some ⟨M, 0, none⟩)) 2, .quiet (.pointer (some ⟨M, 0, none⟩)) 2, .quiet (.pointer (some ⟨M, 0, none⟩)) 2, .step 0, .quiet (.pointer (some ⟨M, 0, none⟩)) 2, .quiet (.pointer (some ⟨M, 0, none⟩)) 2, .quiet (.pointer (some ⟨M, 3, none⟩)) 2, .step 1] [7, 11] (by kernel_rfl)
              (fun s' r w' => match s' with
                | 0 => Kept [M] W w' ∧ Blk w' M #[.int .i64 m, .int .i64 g, .int .i64 f, .int .i64 l, .int .i64 t, .int .i64 s, .int .i64 tl, .int .i64 tn, .slice ha hn hc, .slice bo bn bc, .int .i64 first, .slice ga ln gc, .slice oa lo oc, .slice sa n sc] 77
                | 1 => Kept [M] W w' ∧ Blk w' M #[.int .i64 M1, .int .i64 G1, .int .i64 F1, .int .i64 l, .int .i64 t, .int .i64 s, .int .i64 tl, .int .i64 tn, .slice ha hn hc, .slice bo bn bc, .int .i64 first, .slice ga ln gc, .slice oa lo oc, .slice sa n sc] 77
                | _ => Kept [M] W w' ∧ Blk w' M #[.int .i64 M1, .int .i64 G1, .int .i64 F1, .int .i64 O1, .int .i64 O2, .int .i64 O3, .int .i64 tl, .int .i64 tn, .slice ha hn hc, .slice bo bn bc, .int .i64 first, .slice ga ln gc, .slice oa lo oc, .slice sa n sc] 77
                ) ⟨(Kept.refl _ _).drew, HM4.out.drew⟩ ?step ?fin
            case step =>
              intro i o' ho a' w' s' r hI hfree hvals
              have hK : Kept [M] W w' := by
                match s', hI with
                | 0, hI => exact hI.1
                | 1, hI => exact hI.1
                | n + 2, hI => exact hI.1
              obtain ⟨p0, p1, p2⟩ := (HP4.out.kept hK (by simp; exact hpM)).three
              obtain ⟨o0, o1, o2⟩ := (HO4.out.kept hK (by simp; exact hoM)).three
              match i, ho with
              | 0, ho =>
                simp at ho; subst ho
                have e0 : a'.eval (.tmp 0) = .pointer (some ⟨M, 0, none⟩) := (hfree 0 (by kernel_rfl)).trans rfl
                show s' ≤ 2 → _
                intro hs
                refine .inl ⟨rfl, ?_⟩
                generalize a'.eval = ρ at *
                simp [execOp, go_sem, e0]
              | 1, ho =>
                simp at ho; subst ho
                have e0 : a'.eval (.tmp 0) = .pointer (some ⟨M, 0, none⟩) := (hfree 0 (by kernel_rfl)).trans rfl
                show s' ≤ 2 → _
                intro hs
                refine .inl ⟨rfl, ?_⟩
                generalize a'.eval = ρ at *
                simp [execOp, go_sem, e0]
              | 2, ho =>
                simp at ho; subst ho
                have e5 : a'.eval (.tmp 5) = .pointer (some ⟨p, 0, none⟩) := (hfree 5 (by kernel_rfl)).trans rfl
                show s' ≤ 2 → _
                intro hs
                refine .inl ⟨rfl, ?_⟩
                generalize a'.eval = ρ at *
                simp [execOp, go_sem, e5, p0, p1, p2]
              | 3, ho =>
                simp at ho; subst ho
                have e10 : a'.eval (.tmp 10) = .pointer (some ⟨o, 0, none⟩) := (hfree 10 (by kernel_rfl)).trans rfl
                show s' ≤ 2 → _
                intro hs
                refine .inl ⟨rfl, ?_⟩
                generalize a'.eval = ρ at *
                simp [execOp, go_sem, e10, o0, o1, o2]
              | 4, ho =>
                simp at ho; subst ho
                have e52 : a'.eval (.tmp 52) = .pointer (some ⟨M, 0, none⟩) := hvals 0 _ _ (by kernel_rfl) rfl rfl
                show s' ≤ 2 → _
                intro hs
                refine .inl ⟨rfl, ?_⟩
                generalize a'.eval = ρ at *
                simp [execOp, go_sem, e52]
              | 5, ho =>
                simp at ho; subst ho
                have e56 : a'.eval (.tmp 56) = .pointer (some ⟨M, 0, none⟩) := hvals 4 _ _ (by kernel_rfl) rfl rfl
                show s' ≤ 2 → _
                intro hs
                refine .inl ⟨rfl, ?_⟩
                generalize a'.eval = ρ at *
                simp [execOp, go_sem, e56]
              | 6, ho =>
                simp at ho; subst ho
                have e57 : a'.eval (.tmp 57) = .pointer (some ⟨M, 0, none⟩) := hvals 5 _ _ (by kernel_rfl) rfl rfl
                show s' ≤ 2 → _
                intro hs
                refine .inl ⟨rfl, ?_⟩
                generalize a'.eval = ρ at *
                simp [execOp, go_sem, e57]
              | 7, ho =>
                simp at ho; subst ho
                have e58 : a'.eval (.tmp 58) = .pointer (some ⟨M, 0, none⟩) := hvals 6 _ _ (by kernel_rfl) rfl rfl
                have e54 : a'.eval (.tmp 54) = .agg #[.int .i64 M1, .int .i64 G1, .int .i64 F1] := hvals 2 _ _ (by kernel_rfl) rfl rfl
                show s' = 0 → _ ∧ Oper.wp _ _ _ _ _ _
                intro hs
                subst hs
                refine ⟨rfl, ?_⟩
                obtain ⟨hK2, hblk⟩ := hI
                obtain ⟨y0, y1, y2, y3, y4, y5, y6, y7, y8, y9, y10, y11, y12, y13⟩ := hblk.fourteen
                have fr := hblk.free
                refine oper_wp_skip (w' := ((w'.setCell ⟨M, 0, none⟩ (.int .i64 M1)).setCell ⟨M, 1, none⟩ (.int .i64 G1)).setCell ⟨M, 2, none⟩ (.int .i64 F1)) ?_ ⟨_, rfl, hK2.put3 (by simp) _ _ _, ((hblk.set 0 (.int .i64 M1)).set 1 (.int .i64 G1)).set 2 (.int .i64 F1)⟩
                generalize a'.eval = ρ at *
                simp [execOp, go_sem, e58, e54, y0, y1, y2, fr]
              | 8, ho =>
                simp at ho; subst ho
                have e53 : a'.eval (.tmp 53) = .pointer (some ⟨M, 0, none⟩) := hvals 1 _ _ (by kernel_rfl) rfl rfl
                show s' ≤ 2 → _
                intro hs
                refine .inl ⟨rfl, ?_⟩
                generalize a'.eval = ρ at *
                simp [execOp, go_sem, e53]
              | 9, ho =>
                simp at ho; subst ho
                have e59 : a'.eval (.tmp 59) = .pointer (some ⟨M, 0, none⟩) := hvals 8 _ _ (by kernel_rfl) rfl rfl
                show s' ≤ 2 → _
                intro hs
                refine .inl ⟨rfl, ?_⟩
                generalize a'.eval = ρ at *
                simp [execOp, go_sem, e59]
              | 10, ho =>
                simp at ho; subst ho
                have e60 : a'.eval (.tmp 60) = .pointer (some ⟨M, 0, none⟩) := hvals 9 _ _ (by kernel_rfl) rfl rfl
                show s' ≤ 2 → _
                intro hs
                refine .inl ⟨rfl, ?_⟩
                generalize a'.eval = ρ at *
                simp [execOp, go_sem, e60]
              | 11, ho =>
                simp at ho; subst ho
                have e61 : a'.eval (.tmp 61) = .pointer (some ⟨M, 3, none⟩) := hvals 10 _ _ (by kernel_rfl) rfl rfl
                have e55 : a'.eval (.tmp 55) = .agg #[.int .i64 O1, .int .i64 O2, .int .i64 O3] := hvals 3 _ _ (by kernel_rfl) rfl rfl
                show s' = 1 → _ ∧ Oper.wp _ _ _ _ _ _
                intro hs
                subst hs
                refine ⟨rfl, ?_⟩
                obtain ⟨hK2, hblk⟩ := hI
                obtain ⟨y0, y1, y2, y3, y4, y5, y6, y7, y8, y9, y10, y11, y12, y13⟩ := hblk.fourteen
                have fr := hblk.free
                refine oper_wp_skip (w' := ((w'.setCell ⟨M, 3, none⟩ (.int .i64 O1)).setCell ⟨M, 4, none⟩ (.int .i64 O2)).setCell ⟨M, 5, none⟩ (.int .i64 O3)) ?_ ⟨_, rfl, ((hK2.setCell (p := ⟨M, 3, none⟩) (by simp) _).setCell (p := ⟨M, 4, none⟩) (by simp) _).setCell (p := ⟨M, 5, none⟩) (by simp) _, ((hblk.set 3 (.int .i64 O1)).set 4 (.int .i64 O2)).set 5 (.int .i64 O3)⟩
                generalize a'.eval = ρ at *
                simp [execOp, go_sem, e61, e55, y3, y4, y5, fr]
            case fin =>
              rintro r W7 ⟨hK7, hM7⟩
              simp only [putC, Ck.out, Act.put, List.setIfInBounds_toArray, List.set_cons_succ, List.set_cons_zero]
              have HO7 : Hid (W7.ownsRow base 63 6 (.slice sa n sc) n (pkCells a)) := owns_same HO4'.out (fun g hg => hK7.block g (pk_lt HO4'.out g hg).2 (by have := (pk_lt HO4'.out g hg).1; have h9 := HBS.out; simp; omega))
              have HQ7 : Hid (PksIn (fun _ => True) W7 (.slice qa nP qc) P) := (HQP.out.to (hK7.sameOn (fun g h => by have h9 := HBS.out; have h8 := HbW.out; simp; omega)) (fun _ _ h => h)).mono fun _ _ _ => trivial
              have HK7 : Hid (Kept [M] w W7) := HK4.out.trans hK7
              have HM7 : Hid (Blk W7 M #[.int .i64 M1, .int .i64 G1, .int .i64 F1, .int .i64 O1, .int .i64 O2, .int .i64 O3, .int .i64 tl, .int .i64 tn, .slice ha hn hc, .slice bo bn bc, .int .i64 first, .slice ga ln gc, .slice oa lo oc, .slice sa n sc] 77) := hM7
              have hbW7 : base ≤ W7.heap.size := Nat.le_trans hbW4 hK7.size
              have hO1b := outE_zero.1 HO9.out
              have hna := HNA.out
              have hlb := hln1.out
              have hl9 := HL9.out
              have hnp := HNP.out
              have HQ7' : Pks W7 (.slice qa nP qc) P := HQ7.out.1
              obtain ⟨v', W8, hrun, o8, g8, d8⟩ := pk_app HO7.out HQ7' (by omega) hbW7
              rw [← HNP.out] at o8
              obtain ⟨va, vc, ev, _⟩ := owns_cap o8
              subst ev
              have hrow : ∀ j, some j = (Value.slice sa n sc).ownBlock → base ≤ j := fun j hj => (pk_lt HO7.out j hj.symm).1
              have hMb : M < base := by rw [HBS.out]; exact hMl
              have HM8 : Hid (Blk W8 M #[.int .i64 M1, .int .i64 G1, .int .i64 F1, .int .i64 O1, .int .i64 O2, .int .i64 O3, .int .i64 tl, .int .i64 tn, .slice ha hn hc, .slice bo bn bc, .int .i64 first, .slice ga ln gc, .slice oa lo oc, .slice sa n sc] 77) := (g8.block M HM7.out.lt (fun e => by have := hrow M e; omega)).trans HM7.out
              have HK8 : Hid (Kept [M] w W8) := ⟨g8.os.trans HK7.out.os, g8.tape.trans HK7.out.tape, g8.output.trans HK7.out.output, Nat.le_trans HK7.out.size g8.size, fun j hj hn => (g8.block j (Nat.lt_of_lt_of_le hj HK7.out.size) (fun e => by have := hrow j e; have h9 := HBS.out; omega)).trans (HK7.out.block j hj hn)⟩
              have HO8 : Hid (W8.ownsRow base 63 6 (.slice va (n + nP) vc) (n + nP) (pkCells (a ++ P))) := o8
              obtain ⟨W9, hW9⟩ : ∃ X, X = W8.setCell ⟨M, 13, none⟩ (.slice va (n + nP) vc) := ⟨_, rfl⟩
              have HM9 : Hid (Blk W9 M #[.int .i64 M1, .int .i64 G1, .int .i64 F1, .int .i64 O1, .int .i64 O2, .int .i64 O3, .int .i64 tl, .int .i64 tn, .slice ha hn hc, .slice bo bn bc, .int .i64 first, .slice ga ln gc, .slice oa lo oc, .slice va (n + nP) vc] 77) := by
                have := HM8.out.set 13 (.slice va (n + nP) vc)
                rw [hW9]; simpa [Hid] using this
              have HK9 : Hid (Kept [M] w W9) := by show Kept _ _ _; rw [hW9]; exact HK8.out.setCell (p := ⟨M, 13, none⟩) (by simp) _
              have HO9r : Hid (W9.ownsRow base 63 6 (.slice va (n + nP) vc) (n + nP) (pkCells (a ++ P))) := by
                show World.ownsRow _ _ _ _ _ _ _
                rw [hW9]
                exact owns_same HO8.out (fun g hg => Below.heap_setCell _ _ _ _ (by have := (pk_lt HO8.out g hg).1; show g ≠ M; omega))
              have HNA9 : Hid (n + nP = (a ++ P).length) := by show _ = _; rw [List.length_append, HNA.out, HNP.out]
              have hl99 : O1 = l0 + ((n + nP : Nat) : Int) := by rw [hl9.1, hlb]; simp; omega
              have hmm : (1000000001 - intOf ((W9.cell? ⟨M, 3, none⟩).getD undef)).toNat < (1000000001 - l).toNat := by
                rw [HM9.out.cell (j := 3) (u := .int .i64 O1) rfl]
                show (1000000001 - O1).toNat < _
                omega
              obtain ⟨y0, y1, y2, y3, y4, y5, y6, y7, y8, y9, y10, y11, y12, y13⟩ := HM7.out.fourteen
              obtain ⟨z0, z1, z2, z3, z4, z5, z6, z7, z8, z9, z10, z11, z12, z13⟩ := HM8.out.fourteen
              have f8 := HM8.out.free
              clear HM7 HK7 HO7 HQ7 HQ7' hM7 hK7 HM4 HK4 HO4' HP4 HO4 HQP HM8 HK8 HO8 hrow d8 g8 o8 hO1b hna hlb hl9 hnp HFN HL9 HNP HNA hln1 hbW4 hbW7
              go_wp2_with (at_builtin; refine wpList_append_run rfl (.tmp 66) (.tmp 67) 42 42 rfl _ _ rfl rfl hrun ?_)
              rw [← hW9]
              clear hW9 hrun y0 z0 y1 z1 y2 z2 y3 z3 y4 z4 y5 z5 y6 z6 y7 z7 y8 z8 y9 z9 y10 z10 y11 z11 y12 z12 y13 z13 f8
              go_roundw
              case rel => exact ⟨k', M1, G1, F1, O1, O2, O3, a ++ P, va, n + nP, vc, HM9.out, HO9r.out, HNA9.out, HR9.out, HF2.out, ⟨HC2.out, HO9.out⟩, hl99, HK9.out⟩
              case measure => rw [hm3]; exact hmm
        case false =>
          have h9 : tn9 = (f == 0) := by rw [HTN.out, ← HTT1.out]; rfl
          clear HTN HTT1
          subst h9
          go_upto_region 4 with fail
          refine region_mainG (by kernel_rfl) (by kernel_rfl) [.quiet (.pointer (some ⟨M, 0, none⟩)), .quiet (.pointer (some ⟨M, 0, none⟩)), .quiet (.pointer (some ⟨M, 0, none⟩)), .quiet (.pointer (some ⟨M, 3, none⟩)), .quiet (.agg #[.int .i64 l, .int .i64 t, .int .i64 s]), .quiet (.agg #[.int .i64 xt, .bool xk, .slice pa pn pc]), .quiet (.bool false), .quiet (.bool false), .quiet (.pointer (some ⟨M, 0, none⟩)), .qcall (.bool (f == 0)), .quiet (.bool (f == 0)), .main, .fin (fun r => r), .fin (exT 0), .fin (exT 1), .fin (exT 2), .box 38 #[.int .i64 0, .int .i64 0, .int .i64 0], .put 16 (fun r => aggC (exT 0 r)), .fin (exT 1), .fin (exT 2)] 11 (by kernel_rfl)
            (fun S r w' => ∃ qa qc, r = .tuple #[.agg #[.int .i64 O1, .int .i64 O2, .int .i64 O3], .slice qa nP qc, .int .i64 E2] ∧ PksIn (fun g => S g ∧ W.heap.size ≤ g) w' (.slice qa nP qc) P) ?loc ?step ?fin
          case loc =>
            rintro S r w1 w3 ⟨qa, qc, rfl, h1⟩ hs hsame
            exact ⟨qa, qc, rfl, h1.to ⟨hs, fun g hg hS => hsame g hS.1 hg⟩ (fun _ _ h => h)⟩
          case step =>
            intro i o ho a' w' r hb hfree hvals
            have f0 : a'.eval (.tmp 0) = .pointer (some ⟨M, 0, none⟩) := (hfree 0 (by kernel_rfl)).trans rfl
            have f6 : a'.eval (.tmp 6) = .pointer (some ⟨q, 0, none⟩) := (hfree 6 (by kernel_rfl)).trans rfl
            have f8 : a'.eval (.tmp 8) = .bool false := (hfree 8 (by kernel_rfl)).trans rfl
            obtain ⟨y0, y1, y2, y3, y4, y5, y6, y7, y8, y9, y10, y11, y12, y13⟩ := (HM2.out.below hb HM2.out.lt).fourteen
            obtain ⟨j0, j1, j2⟩ := (HQ2.out.below hb HQ2.out.lt).three
            match i, ho with
            | 0, ho =>
              simp at ho; subst ho
              refine .inr ⟨rfl, ?_⟩
              show (execOp a'.eval _).run _ w' = .ok (.value _) w'
              generalize a'.eval = ρ at *
              simp [execOp, go_sem, f0]
            | 1, ho =>
              simp at ho; subst ho
              refine .inr ⟨rfl, ?_⟩
              have e34 : a'.eval (.tmp 34) = .pointer (some ⟨M, 0, none⟩) := hvals 0 _ (by kernel_rfl) rfl
              show (execOp a'.eval _).run _ w' = .ok (.value _) w'
              generalize a'.eval = ρ at *
              simp [execOp, go_sem, e34]
            | 2, ho =>
              simp at ho; subst ho
              refine .inr ⟨rfl, ?_⟩
              have e35 : a'.eval (.tmp 35) = .pointer (some ⟨M, 0, none⟩) := hvals 1 _ (by kernel_rfl) rfl
              show (execOp a'.eval _).run _ w' = .ok (.value _) w'
              generalize a'.eval = ρ at *
              simp [execOp, go_sem, e35]
            | 3, ho =>
              simp at ho; subst ho
              refine .inr ⟨rfl, ?_⟩
              have e36 : a'.eval (.tmp 36) = .pointer (some ⟨M, 0, none⟩) := hvals 2 _ (by kernel_rfl) rfl
              show (execOp a'.eval _).run _ w' = .ok (.value _) w'
              generalize a'.eval = ρ at *
              simp [execOp, go_sem, e36]
            | 4, ho =>
              simp at ho; subst ho
              refine .inr ⟨rfl, ?_⟩
              have e37 : a'.eval (.tmp 37) = .pointer (some ⟨M, 3, none⟩) := hvals 3 _ (by kernel_rfl) rfl
              show (execOp a'.eval _).run _ w' = .ok (.value _) w'
              generalize a'.eval = ρ at *
              simp [execOp, go_sem, e37, y3, y4, y5]
            | 5, ho =>
              simp at ho; subst ho
              refine .inr ⟨rfl, ?_⟩
              show (execOp a'.eval _).run _ w' = .ok (.value _) w'
              generalize a'.eval = ρ at *
              simp [execOp, go_sem, f6, j0, j1, j2]
            | 6, ho =>
              simp at ho; subst ho
              refine .inr ⟨rfl, ?_⟩
              show (execOp a'.eval _).run _ w' = .ok (.value _) w'
              generalize a'.eval = ρ at *
              simp [execOp, go_sem, f8]
            | 7, ho =>
              simp at ho; subst ho
              refine .inr ⟨rfl, ?_⟩
              have e40 : a'.eval (.tmp 40) = .bool false := hvals 6 _ (by kernel_rfl) rfl
              show (execOp a'.eval _).run _ w' = .ok (.value _) w'
              generalize a'.eval = ρ at *
              simp [execOp, go_sem, e40]
            | 8, ho =>
              simp at ho; subst ho
              have hg : a'.eval (.tmp 41) = .bool false := hvals 7 _ (by kernel_rfl) rfl
              have hy := tmps_of hg
              refine .inr ⟨by simp [Region.wanted, yielded, hy], ?_⟩
              clear hg hy
              show (execOp a'.eval _).run _ w' = .ok (.value _) w'
              generalize a'.eval = ρ at *
              simp [execOp, go_sem, f0]
            | 9, ho =>
              simp at ho; subst ho
              have hg : a'.eval (.tmp 41) = .bool false := hvals 7 _ (by kernel_rfl) rfl
              have hy := tmps_of hg
              refine .inr ⟨by simp [Region.wanted, yielded, hy], ?_⟩
              clear hg hy
              have e42 : a'.eval (.tmp 42) = .pointer (some ⟨M, 0, none⟩) := hvals 8 _ (by kernel_rfl) rfl
              have ef : a'.eval (.func 115) = .func (.func 115) #[] #[] := rfl
              show ∃ f args, (execOp a'.eval _).run _ w' = .ok (.enter f args) w' ∧ _
              generalize a'.eval = ρ at *
              exact ⟨115, #[.pointer (some ⟨M, 0, none⟩)], by simp [execOp, go_sem, e42, ef], HJS.out w' hb⟩
            | 10, ho =>
              simp at ho; subst ho
              refine .inr ⟨rfl, ?_⟩
              have e41 : a'.eval (.tmp 41) = .bool false := hvals 7 _ (by kernel_rfl) rfl
              have e43 : a'.eval (.tmp 43) = .bool (f == 0) := hvals 9 _ (by kernel_rfl) rfl
              show (execOp a'.eval _).run _ w' = .ok (.value _) w'
              generalize a'.eval = ρ at *
              simp [execOp, go_sem, e41, e43]
            | 11, ho =>
              simp at ho; subst ho
              refine .inr ⟨rfl, ?_⟩
              have e38 : a'.eval (.tmp 38) = .agg #[.int .i64 l, .int .i64 t, .int .i64 s] := hvals 4 _ (by kernel_rfl) rfl
              have e39 : a'.eval (.tmp 39) = .agg #[.int .i64 xt, .bool xk, .slice pa pn pc] := hvals 5 _ (by kernel_rfl) rfl
              have e44 : a'.eval (.tmp 44) = .bool (f == 0) := hvals 10 _ (by kernel_rfl) rfl
              have ef : a'.eval (.func 54) = .func (.func 54) #[] #[] := rfl
              show ∃ f args, (execOp a'.eval _).run _ w' = .ok (.enter f args) w' ∧ _
              generalize a'.eval = ρ at *
              refine ⟨54, #[.agg #[.int .i64 l, .int .i64 t, .int .i64 s], .agg #[.int .i64 xt, .bool xk, .slice pa pn pc], .bool (f == 0)], by simp [execOp, go_sem, e38, e39, e44, ef], ?_⟩
              refine (HSD.out w' hb).mono ?_
              rintro e w'' ⟨qa, qc, rfl, h1, hb4⟩
              exact ⟨_, rfl, ⟨qa, qc, rfl, h1.out.mono (fun g hl hg => ⟨⟨hl, .inr hg⟩, (by have := hb.size; omega)⟩)⟩, hb4⟩
            | 12, ho =>
              simp at ho; subst ho
              refine .inr ⟨rfl, ?_⟩
              have e45 : a'.eval (.tmp 45) = r := hvals 11 _ (by kernel_rfl) rfl
              show ∀ S, _ → (execOp a'.eval _).run _ w' = .ok (.value _) w'
              rintro S ⟨qa, qc, rfl, _⟩
              try simp only [exT] at e45
              generalize a'.eval = ρ at *
              simp [execOp, go_sem, e45]
            | 13, ho =>
              simp at ho; subst ho
              refine .inr ⟨rfl, ?_⟩
              have e33 : a'.eval (.tmp 33) = r := hvals 12 _ (by kernel_rfl) rfl
              show ∀ S, _ → (execOp a'.eval _).run _ w' = .ok (.value _) w'
              rintro S ⟨qa, qc, rfl, _⟩
              try simp only [exT] at e33
              generalize a'.eval = ρ at *
              simp [execOp, go_sem, e33, exT]
            | 14, ho =>
              simp at ho; subst ho
              refine .inr ⟨rfl, ?_⟩
              have e33 : a'.eval (.tmp 33) = r := hvals 12 _ (by kernel_rfl) rfl
              show ∀ S, _ → (execOp a'.eval _).run _ w' = .ok (.value _) w'
              rintro S ⟨qa, qc, rfl, _⟩
              try simp only [exT] at e33
              generalize a'.eval = ρ at *
              simp [execOp, go_sem, e33, exT]
            | 15, ho =>
              simp at ho; subst ho
              refine .inr ⟨rfl, ?_⟩
              have e33 : a'.eval (.tmp 33) = r := hvals 12 _ (by kernel_rfl) rfl
              show ∀ S, _ → (execOp a'.eval _).run _ w' = .ok (.value _) w'
              rintro S ⟨qa, qc, rfl, _⟩
              try simp only [exT] at e33
              generalize a'.eval = ρ at *
              simp [execOp, go_sem, e33, exT]
            | 16, ho =>
              simp at ho; subst ho
              refine .inr ⟨rfl, ?_⟩
              show (execOp a'.eval _).run _ w' = .ok (.value _) _
              generalize a'.eval = ρ at *
              simp [execOp, go_sem]
            | 17, ho =>
              simp at ho; subst ho
              refine .inr ⟨rfl, ?_⟩
              have e46 : a'.eval (.tmp 46) = (exT 0) r := hvals 13 _ (by kernel_rfl) rfl
              show ∀ S, _ → ∀ t z g C, _ → _ → _ → _ → ∃ w'', (execOp a'.eval _).run _ w' = .ok .skip w'' ∧ _
              rintro S ⟨qa, qc, rfl, _⟩ t z g C hz hC hs (eb : a'.eval (.tmp 10) = _)
              cases hz
              obtain ⟨u0, u1, u2, q0, q1, q2⟩ := cells3 hC hs
              have p0 := hC.free 0
              have p1 := hC.free 1
              have p2 := hC.free 2
              obtain ⟨m1, m2, m3⟩ := set3 hC hs (.int .i64 O1) (.int .i64 O2) (.int .i64 O3)
              simp only [exT] at e46
              generalize a'.eval = ρ at *
              exact ⟨_, by simp [execOp, go_sem, e46, eb, q0, q1, q2, p0, p1, p2], m1, m2, rfl, m3, rfl, rfl, rfl⟩
            | 18, ho =>
              simp at ho; subst ho
              refine .inr ⟨rfl, ?_⟩
              have e47 : a'.eval (.tmp 47) = (exT 1) r := hvals 14 _ (by kernel_rfl) rfl
              show ∀ S, _ → (execOp a'.eval _).run _ w' = .ok (.value _) w'
              rintro S ⟨qa, qc, rfl, _⟩
              try simp only [exT] at e47
              generalize a'.eval = ρ at *
              simp [execOp, go_sem, e47, exT]
            | 19, ho =>
              simp at ho; subst ho
              refine .inr ⟨rfl, ?_⟩
              have e48 : a'.eval (.tmp 48) = (exT 2) r := hvals 15 _ (by kernel_rfl) rfl
              show ∀ S, _ → (execOp a'.eval _).run _ w' = .ok (.value _) w'
              rintro S ⟨qa, qc, rfl, _⟩
              try simp only [exT] at e48
              generalize a'.eval = ρ at *
              simp [execOp, go_sem, e48, exT]
            | i + 20, ho => simp at ho
          case fin =>
            rintro r gs Sr W4 hb ⟨qa, qc, rfl, h1⟩ hS hbox hap
            obtain ⟨p1, p2, C, p3, p4⟩ := hbox 16 _ _ (by decide) rfl
            have p5 := p4 17 _ (by decide) rfl
            subst p5
            have KO : Hid (Blk W4 (gs 16) #[.int .i64 O1, .int .i64 O2, .int .i64 O3] 38) := p3
            simp only [putK, Kd.out, exT, Act.put, List.setIfInBounds_toArray, List.set_cons_succ, List.set_cons_zero, List.getElem?_toArray, List.getElem?_cons_zero, List.getElem?_cons_succ, Option.getD_some]
            obtain ⟨o, ho⟩ : ∃ p, p = gs 16 := ⟨_, rfl⟩
            rw [← ho] at KO p1
            rw [← ho]
            have HBW : Hid (Below W.heap.size W W4) := hb
            have HQP : Hid (PksIn (fun g => W.heap.size ≤ g) W4 (.slice qa nP qc) P) := h1.mono fun _ _ h => h.2
            have hMr := HM2.out.lt
            have hoM : ¬ o = M := by omega
            clear ho h1 hS hbox hap p2 p3 p4 hb HSD HQ2
            have HM4 : Hid (Blk W4 M #[.int .i64 m, .int .i64 g, .int .i64 f, .int .i64 l, .int .i64 t, .int .i64 s, .int .i64 tl, .int .i64 tn, .slice ha hn hc, .slice bo bn bc, .int .i64 first, .slice ga ln gc, .slice oa lo oc, .slice sa n sc] 77) := HM2.out.below HBW.out HM2.out.lt
            have HK4 : Hid (Kept [M] w W4) := HK2.out.below HBW.out
            have HO4' : Hid (W4.ownsRow base 63 6 (.slice sa n sc) n (pkCells a)) := owns_below HO2.out HBW.out (Nat.le_refl _)
            have HP4 : Hid (Blk W4 p #[.int .i64 M1, .int .i64 G1, .int .i64 F1] 36) := KP.out.below HBW.out KP.out.lt
            have HO4 : Hid (Blk W4 o #[.int .i64 O1, .int .i64 O2, .int .i64 O3] 38) := KO
            have hbW4 : base ≤ W4.heap.size := Nat.le_trans hbW HBW.out.size
            have HbW : Hid (base ≤ W.heap.size) := hbW
            clear HM2 HK2 HO2 KP KO HBW p1 hMr hbW
            by_cases hE2 : E2 = 0
            case neg =>
              have hRR : Hid (R = (Vw.zero, [], E2)) := by
                have := HRs.out
                rw [if_neg hE2] at this; exact this
              have hE9 : Hid (E = E2) := by show E = E2; rw [HER.out, hRR.out]
              have HN0 : Hid (¬ E = 0) := by show ¬ E = 0; rw [hE9.out]; exact hE2
              clear HRs HGD HC2 HF2 HFN HM4 HO4' HP4 HO4 HQP HC HER
              go_wp2_with fail
              go_ret
              exact ⟨by rw [hE9.out]; rfl, fun h => absurd h HN0.out, HK4.out⟩
            obtain ⟨g1, g2, g3⟩ := HGD.out hE2
            have HR9 : Hid (R = sendF T upto k' ⟨M1, G1, F1, O1, O2, O3⟩ (a ++ P)) := by
              have := HRs.out
              rw [if_pos hE2] at this; exact this
            have HO9 : Hid (outE O1 O2 O3 = 0) := g1
            have HL9 : Hid (O1 = l + nP ∧ 0 < nP) := ⟨g2, g3⟩
            clear HGD HRs g1 g2 g3
            subst hE2
            obtain ⟨W, hWW⟩ : ∃ X, X = W4 := ⟨_, rfl⟩
            subst hWW
            go_upto_region 7 with fail
            refine region_chainG (by kernel_rfl) (by kernel_rfl) [.quiet (.pointer (some ⟨M, 0, none⟩)) 2, .quiet (.pointer (some ⟨M, 0, none⟩)) 2, .quiet (.agg #[.int .i64 M1, .int .i64 G1, .int .i64 F1]) 2, .quiet (.agg #[.int .i64 O1, .int .i64 O2, .int .i64 O3]) 2, .quiet (.pointer (some ⟨M, 0, none⟩)) 2, .quiet (.pointer (some ⟨M, 0, none⟩)) 2, .quiet (.pointer (some ⟨M, 0, none⟩)) 2, .step 0, .quiet (.pointer (some ⟨M, 0, none⟩)) 2, .quiet (.pointer (some ⟨M, 0, none⟩)) 2, .quiet (.pointer (some ⟨M, 3, none⟩)) 2, .step 1] [7, 11] (by kernel_rfl)
              (fun s' r w' => match s' with
                | 0 => Kept [M] W w' ∧ Blk w' M #[.int .i64 m, .int .i64 g, .int .i64 f, .int .i64 l, .int .i64 t, .int .i64 s, .int .i64 tl, .int .i64 tn, .slice ha hn hc, .slice bo bn bc, .int .i64 first, .slice ga ln gc, .slice oa lo oc, .slice sa n sc] 77
                | 1 => Kept [M] W w' ∧ Blk w' M #[.int .i64 M1, .int .i64 G1, .int .i64 F1, .int .i64 l, .int .i64 t, .int .i64 s, .int .i64 tl, .int .i64 tn, .slice ha hn hc, .slice bo bn bc, .int .i64 first, .slice ga ln gc, .slice oa lo oc, .slice sa n sc] 77
                | _ => Kept [M] W w' ∧ Blk w' M #[.int .i64 M1, .int .i64 G1, .int .i64 F1, .int .i64 O1, .int .i64 O2, .int .i64 O3, .int .i64 tl, .int .i64 tn, .slice ha hn hc, .slice bo bn bc, .int .i64 first, .slice ga ln gc, .slice oa lo oc, .slice sa n sc] 77
                ) ⟨(Kept.refl _ _).drew, HM4.out.drew⟩ ?step ?fin
            case step =>
              intro i o' ho a' w' s' r hI hfree hvals
              have hK : Kept [M] W w' := by
                match s', hI with
                | 0, hI => exact hI.1
                | 1, hI => exact hI.1
                | n + 2, hI => exact hI.1
              obtain ⟨p0, p1, p2⟩ := (HP4.out.kept hK (by simp; exact hpM)).three
              obtain ⟨o0, o1, o2⟩ := (HO4.out.kept hK (by simp; exact hoM)).three
              match i, ho with
              | 0, ho =>
                simp at ho; subst ho
                have e0 : a'.eval (.tmp 0) = .pointer (some ⟨M, 0, none⟩) := (hfree 0 (by kernel_rfl)).trans rfl
                show s' ≤ 2 → _
                intro hs
                refine .inl ⟨rfl, ?_⟩
                generalize a'.eval = ρ at *
                simp [execOp, go_sem, e0]
              | 1, ho =>
                simp at ho; subst ho
                have e0 : a'.eval (.tmp 0) = .pointer (some ⟨M, 0, none⟩) := (hfree 0 (by kernel_rfl)).trans rfl
                show s' ≤ 2 → _
                intro hs
                refine .inl ⟨rfl, ?_⟩
                generalize a'.eval = ρ at *
                simp [execOp, go_sem, e0]
              | 2, ho =>
                simp at ho; subst ho
                have e5 : a'.eval (.tmp 5) = .pointer (some ⟨p, 0, none⟩) := (hfree 5 (by kernel_rfl)).trans rfl
                show s' ≤ 2 → _
                intro hs
                refine .inl ⟨rfl, ?_⟩
                generalize a'.eval = ρ at *
                simp [execOp, go_sem, e5, p0, p1, p2]
              | 3, ho =>
                simp at ho; subst ho
                have e10 : a'.eval (.tmp 10) = .pointer (some ⟨o, 0, none⟩) := (hfree 10 (by kernel_rfl)).trans rfl
                show s' ≤ 2 → _
                intro hs
                refine .inl ⟨rfl, ?_⟩
                generalize a'.eval = ρ at *
                simp [execOp, go_sem, e10, o0, o1, o2]
              | 4, ho =>
                simp at ho; subst ho
                have e52 : a'.eval (.tmp 52) = .pointer (some ⟨M, 0, none⟩) := hvals 0 _ _ (by kernel_rfl) rfl rfl
                show s' ≤ 2 → _
                intro hs
                refine .inl ⟨rfl, ?_⟩
                generalize a'.eval = ρ at *
                simp [execOp, go_sem, e52]
              | 5, ho =>
                simp at ho; subst ho
                have e56 : a'.eval (.tmp 56) = .pointer (some ⟨M, 0, none⟩) := hvals 4 _ _ (by kernel_rfl) rfl rfl
                show s' ≤ 2 → _
                intro hs
                refine .inl ⟨rfl, ?_⟩
                generalize a'.eval = ρ at *
                simp [execOp, go_sem, e56]
              | 6, ho =>
                simp at ho; subst ho
                have e57 : a'.eval (.tmp 57) = .pointer (some ⟨M, 0, none⟩) := hvals 5 _ _ (by kernel_rfl) rfl rfl
                show s' ≤ 2 → _
                intro hs
                refine .inl ⟨rfl, ?_⟩
                generalize a'.eval = ρ at *
                simp [execOp, go_sem, e57]
              | 7, ho =>
                simp at ho; subst ho
                have e58 : a'.eval (.tmp 58) = .pointer (some ⟨M, 0, none⟩) := hvals 6 _ _ (by kernel_rfl) rfl rfl
                have e54 : a'.eval (.tmp 54) = .agg #[.int .i64 M1, .int .i64 G1, .int .i64 F1] := hvals 2 _ _ (by kernel_rfl) rfl rfl
                show s' = 0 → _ ∧ Oper.wp _ _ _ _ _ _
                intro hs
                subst hs
                refine ⟨rfl, ?_⟩
                obtain ⟨hK2, hblk⟩ := hI
                obtain ⟨y0, y1, y2, y3, y4, y5, y6, y7, y8, y9, y10, y11, y12, y13⟩ := hblk.fourteen
                have fr := hblk.free
                refine oper_wp_skip (w' := ((w'.setCell ⟨M, 0, none⟩ (.int .i64 M1)).setCell ⟨M, 1, none⟩ (.int .i64 G1)).setCell ⟨M, 2, none⟩ (.int .i64 F1)) ?_ ⟨_, rfl, hK2.put3 (by simp) _ _ _, ((hblk.set 0 (.int .i64 M1)).set 1 (.int .i64 G1)).set 2 (.int .i64 F1)⟩
                generalize a'.eval = ρ at *
                simp [execOp, go_sem, e58, e54, y0, y1, y2, fr]
              | 8, ho =>
                simp at ho; subst ho
                have e53 : a'.eval (.tmp 53) = .pointer (some ⟨M, 0, none⟩) := hvals 1 _ _ (by kernel_rfl) rfl rfl
                show s' ≤ 2 → _
                intro hs
                refine .inl ⟨rfl, ?_⟩
                generalize a'.eval = ρ at *
                simp [execOp, go_sem, e53]
              | 9, ho =>
                simp at ho; subst ho
                have e59 : a'.eval (.tmp 59) = .pointer (some ⟨M, 0, none⟩) := hvals 8 _ _ (by kernel_rfl) rfl rfl
                show s' ≤ 2 → _
                intro hs
                refine .inl ⟨rfl, ?_⟩
                generalize a'.eval = ρ at *
                simp [execOp, go_sem, e59]
              | 10, ho =>
                simp at ho; subst ho
                have e60 : a'.eval (.tmp 60) = .pointer (some ⟨M, 0, none⟩) := hvals 9 _ _ (by kernel_rfl) rfl rfl
                show s' ≤ 2 → _
                intro hs
                refine .inl ⟨rfl, ?_⟩
                generalize a'.eval = ρ at *
                simp [execOp, go_sem, e60]
              | 11, ho =>
                simp at ho; subst ho
                have e61 : a'.eval (.tmp 61) = .pointer (some ⟨M, 3, none⟩) := hvals 10 _ _ (by kernel_rfl) rfl rfl
                have e55 : a'.eval (.tmp 55) = .agg #[.int .i64 O1, .int .i64 O2, .int .i64 O3] := hvals 3 _ _ (by kernel_rfl) rfl rfl
                show s' = 1 → _ ∧ Oper.wp _ _ _ _ _ _
                intro hs
                subst hs
                refine ⟨rfl, ?_⟩
                obtain ⟨hK2, hblk⟩ := hI
                obtain ⟨y0, y1, y2, y3, y4, y5, y6, y7, y8, y9, y10, y11, y12, y13⟩ := hblk.fourteen
                have fr := hblk.free
                refine oper_wp_skip (w' := ((w'.setCell ⟨M, 3, none⟩ (.int .i64 O1)).setCell ⟨M, 4, none⟩ (.int .i64 O2)).setCell ⟨M, 5, none⟩ (.int .i64 O3)) ?_ ⟨_, rfl, ((hK2.setCell (p := ⟨M, 3, none⟩) (by simp) _).setCell (p := ⟨M, 4, none⟩) (by simp) _).setCell (p := ⟨M, 5, none⟩) (by simp) _, ((hblk.set 3 (.int .i64 O1)).set 4 (.int .i64 O2)).set 5 (.int .i64 O3)⟩
                generalize a'.eval = ρ at *
                simp [execOp, go_sem, e61, e55, y3, y4, y5, fr]
            case fin =>
              rintro r W7 ⟨hK7, hM7⟩
              simp only [putC, Ck.out, Act.put, List.setIfInBounds_toArray, List.set_cons_succ, List.set_cons_zero]
              have HO7 : Hid (W7.ownsRow base 63 6 (.slice sa n sc) n (pkCells a)) := owns_same HO4'.out (fun g hg => hK7.block g (pk_lt HO4'.out g hg).2 (by have := (pk_lt HO4'.out g hg).1; have h9 := HBS.out; simp; omega))
              have HQ7 : Hid (PksIn (fun _ => True) W7 (.slice qa nP qc) P) := (HQP.out.to (hK7.sameOn (fun g h => by have h9 := HBS.out; have h8 := HbW.out; simp; omega)) (fun _ _ h => h)).mono fun _ _ _ => trivial
              have HK7 : Hid (Kept [M] w W7) := HK4.out.trans hK7
              have HM7 : Hid (Blk W7 M #[.int .i64 M1, .int .i64 G1, .int .i64 F1, .int .i64 O1, .int .i64 O2, .int .i64 O3, .int .i64 tl, .int .i64 tn, .slice ha hn hc, .slice bo bn bc, .int .i64 first, .slice ga ln gc, .slice oa lo oc, .slice sa n sc] 77) := hM7
              have hbW7 : base ≤ W7.heap.size := Nat.le_trans hbW4 hK7.size
              have hO1b := outE_zero.1 HO9.out
              have hna := HNA.out
              have hlb := hln1.out
              have hl9 := HL9.out
              have hnp := HNP.out
              have HQ7' : Pks W7 (.slice qa nP qc) P := HQ7.out.1
              obtain ⟨v', W8, hrun, o8, g8, d8⟩ := pk_app HO7.out HQ7' (by omega) hbW7
              rw [← HNP.out] at o8
              obtain ⟨va, vc, ev, _⟩ := owns_cap o8
              subst ev
              have hrow : ∀ j, some j = (Value.slice sa n sc).ownBlock → base ≤ j := fun j hj => (pk_lt HO7.out j hj.symm).1
              have hMb : M < base := by rw [HBS.out]; exact hMl
              have HM8 : Hid (Blk W8 M #[.int .i64 M1, .int .i64 G1, .int .i64 F1, .int .i64 O1, .int .i64 O2, .int .i64 O3, .int .i64 tl, .int .i64 tn, .slice ha hn hc, .slice bo bn bc, .int .i64 first, .slice ga ln gc, .slice oa lo oc, .slice sa n sc] 77) := (g8.block M HM7.out.lt (fun e => by have := hrow M e; omega)).trans HM7.out
              have HK8 : Hid (Kept [M] w W8) := ⟨g8.os.trans HK7.out.os, g8.tape.trans HK7.out.tape, g8.output.trans HK7.out.output, Nat.le_trans HK7.out.size g8.size, fun j hj hn => (g8.block j (Nat.lt_of_lt_of_le hj HK7.out.size) (fun e => by have := hrow j e; have h9 := HBS.out; omega)).trans (HK7.out.block j hj hn)⟩
              have HO8 : Hid (W8.ownsRow base 63 6 (.slice va (n + nP) vc) (n + nP) (pkCells (a ++ P))) := o8
              obtain ⟨W9, hW9⟩ : ∃ X, X = W8.setCell ⟨M, 13, none⟩ (.slice va (n + nP) vc) := ⟨_, rfl⟩
              have HM9 : Hid (Blk W9 M #[.int .i64 M1, .int .i64 G1, .int .i64 F1, .int .i64 O1, .int .i64 O2, .int .i64 O3, .int .i64 tl, .int .i64 tn, .slice ha hn hc, .slice bo bn bc, .int .i64 first, .slice ga ln gc, .slice oa lo oc, .slice va (n + nP) vc] 77) := by
                have := HM8.out.set 13 (.slice va (n + nP) vc)
                rw [hW9]; simpa [Hid] using this
              have HK9 : Hid (Kept [M] w W9) := by show Kept _ _ _; rw [hW9]; exact HK8.out.setCell (p := ⟨M, 13, none⟩) (by simp) _
              have HO9r : Hid (W9.ownsRow base 63 6 (.slice va (n + nP) vc) (n + nP) (pkCells (a ++ P))) := by
                show World.ownsRow _ _ _ _ _ _ _
                rw [hW9]
                exact owns_same HO8.out (fun g hg => Below.heap_setCell _ _ _ _ (by have := (pk_lt HO8.out g hg).1; show g ≠ M; omega))
              have HNA9 : Hid (n + nP = (a ++ P).length) := by show _ = _; rw [List.length_append, HNA.out, HNP.out]
              have hl99 : O1 = l0 + ((n + nP : Nat) : Int) := by rw [hl9.1, hlb]; simp; omega
              have hmm : (1000000001 - intOf ((W9.cell? ⟨M, 3, none⟩).getD undef)).toNat < (1000000001 - l).toNat := by
                rw [HM9.out.cell (j := 3) (u := .int .i64 O1) rfl]
                show (1000000001 - O1).toNat < _
                omega
              obtain ⟨y0, y1, y2, y3, y4, y5, y6, y7, y8, y9, y10, y11, y12, y13⟩ := HM7.out.fourteen
              obtain ⟨z0, z1, z2, z3, z4, z5, z6, z7, z8, z9, z10, z11, z12, z13⟩ := HM8.out.fourteen
              have f8 := HM8.out.free
              clear HM7 HK7 HO7 HQ7 HQ7' hM7 hK7 HM4 HK4 HO4' HP4 HO4 HQP HM8 HK8 HO8 hrow d8 g8 o8 hO1b hna hlb hl9 hnp HFN HL9 HNP HNA hln1 hbW4 hbW7
              go_wp2_with (at_builtin; refine wpList_append_run rfl (.tmp 66) (.tmp 67) 42 42 rfl _ _ rfl rfl hrun ?_)
              rw [← hW9]
              clear hW9 hrun y0 z0 y1 z1 y2 z2 y3 z3 y4 z4 y5 z5 y6 z6 y7 z7 y8 z8 y9 z9 y10 z10 y11 z11 y12 z12 y13 z13 f8
              go_roundw
              case rel => exact ⟨k', M1, G1, F1, O1, O2, O3, a ++ P, va, n + nP, vc, HM9.out, HO9r.out, HNA9.out, HR9.out, HF2.out, ⟨HC2.out, HO9.out⟩, hl99, HK9.out⟩
              case measure => rw [hm3]; exact hmm

end Go.Proofs.YtnpaejknoipicagGreat
