/-
  Contract: the document's AddOf.
-/
import Derived.Test.YtnpaejknoipicafGreatFrameMath2
import Derived.Test.YtnpaejknoipicafGreatFrameAll
import Derived.Test.YtnpaejknoipicafGreatRegApp
import Derived.Deep.DeepCutAuto
import Derived.Deep.Cut
namespace Go.Proofs.YtnpaejknoipicafGreat
open Go.RowKit Go.Sort

set_option maxHeartbeats 4000000 in
set_option maxRecDepth 100000 in
theorem addOf_any (v : Value) (l : List Sk) (x : Sk) (w : World) (hv : Sls w v l) (hl3 : l.length ≤ 3) (hnums : ∀ y ∈ l, y.chk = 0) :
    Calls Tryz.prog 120 #[.agg #[v], x.val] w fun e w' => ∃ ov pv, e = .returned (.tuple #[.agg #[ov], .agg #[.int .i64 (addT l x), .bool (addK l x), pv], .bool (addW l x)]) ∧
      Sls w' ov (addO l x) ∧ Strs w' pv (addP l x) ∧ (∀ g, pv.ownBlock = some g → w.heap.size ≤ g ∧ ∃ cur, Blk w' g cur 9) ∧ (∀ g, ov.ownBlock = some g → w.heap.size ≤ g ∧ g < w'.heap.size) ∧ Below w.heap.size w w' := by
  obtain ⟨i0, hi, hz0, hz1, hz2⟩ := info_parts Tryz.infoSlot
  obtain ⟨ao, c, hva, hc⟩ := hv.parts
  have HV : Hid (Sls w v l) := hv
  obtain ⟨n, hn⟩ : ∃ n, n = l.length := ⟨_, rfl⟩
  have HN : Hid (n = l.length) := hn
  rw [← hn] at hva hl3
  obtain ⟨T, hT⟩ : ∃ T, T = takeF l x := ⟨_, rfl⟩
  have HT : Hid (T = takeF l x) := hT
  have HC : Hid (∀ k, k < l.length → ∃ b off, ao = some ⟨b, off, none⟩ ∧ b < w.heap.size ∧ At7 w b (off + k * 7) (l[k]?.getD Sk.zero)) := hc
  have HNU : Hid (∀ y ∈ l, y.chk = 0) := hnums
  clear hv hn hT hc hnums
  subst hva
  obtain ⟨rT, hrT⟩ : ∃ rT, rT = addT l x := ⟨_, rfl⟩
  obtain ⟨rK, hrK⟩ : ∃ rK, rK = addK l x := ⟨_, rfl⟩
  obtain ⟨rW, hrW⟩ : ∃ rW, rW = addW l x := ⟨_, rfl⟩
  obtain ⟨rO, hrO⟩ : ∃ rO, rO = addO l x := ⟨_, rfl⟩
  obtain ⟨rP, hrP⟩ : ∃ rP, rP = addP l x := ⟨_, rfl⟩
  have HRS : Hid (rT = addT l x ∧ rK = addK l x ∧ rW = addW l x ∧ rO = addO l x ∧ rP = addP l x) := ⟨hrT, hrK, hrW, hrO, hrP⟩
  rw [← hrT, ← hrK, ← hrW, ← hrO, ← hrP]
  clear hrT hrK hrW hrO hrP
  obtain ⟨xn, seq, time, xf, xe, xk, xt⟩ := x
  simp only [Sk.val]
  go_enter Tryz.func120, Tryz.ntmps120
  go_upto_if 16 with fail
  go_cut [7] (fun s7 wc => ∃ (a : Option Addr) (c' : Nat), s7 = .slice a T.length c' ∧ Hid (Sls wc (.slice a T.length c') T) ∧ Hid (∀ g, (Value.slice a T.length c').ownBlock = some g → w.heap.size + 1 + 1 + 1 + 1 ≤ g ∧ g < wc.heap.size) ∧ Hid (Blk wc (w.heap.size + 1) #[.int .i64 xn, .int .i64 seq, .int .i64 time, .bool xf, .bool xe, .bool xk, .string xt] 91) ∧ Hid (Blk wc (w.heap.size + 1 + 1) #[.slice none 0 0] 59) ∧ Hid (Blk wc (w.heap.size + 1 + 1 + 1) #[.int .i64 0, .bool false, .slice none 0 0] 30) ∧ Hid (Below w.heap.size w wc))
  case first =>
    obtain ⟨W, hW⟩ : ∃ W, W = ((((w.alloc (.cells #[.slice ao n c] 59)).alloc (.cells #[.int .i64 xn, .int .i64 seq, .int .i64 time, .bool xf, .bool xe, .bool xk, .string xt] 91)).alloc (.cells #[.slice none 0 0] 59)).alloc (.cells #[.int .i64 0, .bool false, .slice none 0 0] 30)) := ⟨_, rfl⟩
    rw [← hW]
    obtain ⟨kb, kx, kr, kf, bW, sW⟩ := blocks4 (w := w) (w1 := W) (by rw [hW]; exact Below.refl _ _)
    have sW2 : W.heap.size = w.heap.size + 1 + 1 + 1 + 1 := by rw [hW]; simp
    clear hW sW
    have KB : Hid (Blk W w.heap.size #[.slice ao n c] 59) := kb
    have KX : Hid (Blk W (w.heap.size + 1) #[.int .i64 xn, .int .i64 seq, .int .i64 time, .bool xf, .bool xe, .bool xk, .string xt] 91) := kx
    have KR : Hid (Blk W (w.heap.size + 1 + 1) #[.slice none 0 0] 59) := kr
    have KF : Hid (Blk W (w.heap.size + 1 + 1 + 1) #[.int .i64 0, .bool false, .slice none 0 0] 30) := kf
    have BW : Hid (Below w.heap.size w W) := bW
    have SW : Hid (W.heap.size = w.heap.size + 1 + 1 + 1 + 1) := sW2
    have b0 := kb.one
    obtain ⟨x0, x1, x2, x3, x4, x5, x6⟩ := kx.seven
    clear kb kx kr kf bW sW2
    have SAME : Hid (∀ (V : World) (t : List Sk), Hid (T = t) → Below W.heap.size W V → ∀ (a : Option Addr) (m c' : Nat), m = t.length → Sls V (.slice a m c') t → (∀ g, (Value.slice a m c').ownBlock = some g → W.heap.size ≤ g ∧ g < V.heap.size) →
        ∃ (a' : Option Addr) (c'' : Nat), Value.slice a m c' = .slice a' T.length c'' ∧ Hid (Sls V (.slice a' T.length c'') T) ∧ Hid (∀ g, (Value.slice a' T.length c'').ownBlock = some g → w.heap.size + 1 + 1 + 1 + 1 ≤ g ∧ g < V.heap.size) ∧ Hid (Blk V (w.heap.size + 1) #[.int .i64 xn, .int .i64 seq, .int .i64 time, .bool xf, .bool xe, .bool xk, .string xt] 91) ∧ Hid (Blk V (w.heap.size + 1 + 1) #[.slice none 0 0] 59) ∧ Hid (Blk V (w.heap.size + 1 + 1 + 1) #[.int .i64 0, .bool false, .slice none 0 0] 30) ∧ Hid (Below w.heap.size w V)) := fun V t ht hb a m c' hm hs hg => by
      have e : T = t := ht.out
      subst e
      subst hm
      have := SW.out
      exact ⟨a, c', rfl, hs, fun g h => by have := hg g h; omega, KX.out.below hb KX.out.lt, KR.out.below hb KR.out.lt, KF.out.below hb KF.out.lt, BW.out.trans (hb.mono BW.out.size)⟩
    cases xf
    · by_cases hn0 : n = 0
      · have HTT : Hid (T = []) := by
          show T = []
          rw [HT.out]; unfold takeF
          rw [if_neg (by simp), if_neg (by rw [← HN.out]; omega)]
        subst hn0
        have hd : decide ((0 : Int) < 0) = false := rfl
        go_wp2_with fail
        go_quiet (fail)
        go_wp2_with fail
        go_meet
        case rel => exact SAME.out _ [] HTT (below_drewN (Below.refl _ _) _) none 0 0 rfl (Sls.nil _) (fun g hg => by simp [Value.ownBlock] at hg)
      · obtain ⟨y, hy⟩ : ∃ y, y = lastSk l := ⟨_, rfl⟩
        have HY : Hid (y = lastSk l) := hy
        have hyb : 0 ≤ y.n ∧ y.n ≤ 1000000001 := by
          rw [hy]; unfold lastSk
          have hlt : l.length - 1 < l.length := by rw [← HN.out]; omega
          rw [List.getElem?_eq_getElem hlt, Option.getD_some]
          have := Sk.chk_zero (HNU.out _ (List.getElem_mem hlt))
          omega
        obtain ⟨b, off, hao, hbl, hat⟩ := HC.out (l.length - 1) (by rw [← HN.out]; omega)
        rw [show l[l.length - 1]?.getD Sk.zero = y from hy.symm] at hat
        subst hao
        obtain ⟨n1, hn1⟩ : ∃ n1, n1 = l.length - 1 := ⟨_, rfl⟩
        rw [← hn1] at hat
        have hnn : (n : Int) - 1 = (n1 : Int) := by have := HN.out; omega
        have hn1n : (n1 : Int) < (n : Int) := by omega
        have hn10 : (0 : Int) ≤ (n1 : Int) := by omega
        have hd : decide (0 < n) = true := decide_eq_true (by omega)
        have hwr : IntKind.i64.wrap (n1 : Int) = (n1 : Int) := by rw [IntKind.wrap_i64]; omega
        obtain ⟨X, hX⟩ : ∃ X : Sk, X = ⟨xn, ⟨seq, time, false, xe, xk, xt⟩⟩ := ⟨_, rfl⟩
        have HX : Hid (X = ⟨xn, ⟨seq, time, false, xe, xk, xt⟩⟩) := hX
        obtain ⟨t, ht⟩ : ∃ t, t = nextB y X := ⟨_, rfl⟩
        have HTB : Hid (t = nextB y X) := ht
        have HN0 : Hid (¬ n = 0) := hn0
        have cF : ∀ d os, Calls Tryz.prog 116 #[.agg #[.int .i64 y.n, .int .i64 y.p.seq, .int .i64 y.p.time, .bool y.p.f, .bool y.p.e, .bool y.p.k, .string y.p.t], .agg #[.int .i64 xn, .int .i64 seq, .int .i64 time, .bool false, .bool xe, .bool xk, .string xt]] (grow (redrawn W d) os) fun e w'' => e = .returned (.bool t) ∧ ∃ p : Regrown, w'' = grow (redrawn W p.d) p.os := fun d os =>
          Calls.regrown_of (by
            have h := isNext_any y X (grow (redrawn W d) os) hyb
            rw [← ht, hX] at h
            exact h)
        obtain ⟨p0, p1, p2, p3, p4, p5, p6⟩ := hat.below BW.out hbl
        have m0 := cell_regrown b0
        have q0 := cell_regrown p0
        have q1 := cell_regrown p1
        have q2 := cell_regrown p2
        have q3 := cell_regrown p3
        have q4 := cell_regrown p4
        have q5 := cell_regrown p5
        have q6 := cell_regrown p6
        have z0 := cell_regrown x0
        have z1 := cell_regrown x1
        have z2 := cell_regrown x2
        have z3 := cell_regrown x3
        have z4 := cell_regrown x4
        have z5 := cell_regrown x5
        have z6 := cell_regrown x6
        clear p0 p1 p2 p3 p4 p5 p6 x0 x1 x2 x3 x4 x5 x6 b0 hat hn1 hX ht hy hn0
        go_wp2_with fail
        refine wp_region_quiet_below (by kernel_rfl) (by kernel_rfl) ?_
        repeat (quiet_step (exact cF _ _))
        refine wpQuiet_nil ?_
        intro _ hw'
        obtain ⟨⟨dq, osq⟩, hw''⟩ := hw'
        subst hw''
        have bR := below_regrown W dq osq
        obtain ⟨V, hV⟩ : ∃ V, V = grow (redrawn W dq) osq := ⟨_, rfl⟩
        rw [← hV] at bR
        have BV : Hid (Below W.heap.size W V) := bR
        have x0 := z0 dq osq
        have x1 := z1 dq osq
        have x2 := z2 dq osq
        have x3 := z3 dq osq
        have x4 := z4 dq osq
        have x5 := z5 dq osq
        have x6 := z6 dq osq
        have b0 := m0 dq osq
        rw [← hV] at x0 x1 x2 x3 x4 x5 x6 b0 ⊢
        clear hV bR cF m0 q0 q1 q2 q3 q4 q5 q6 z0 z1 z2 z3 z4 z5 z6
        cases t
        · have HTT : Hid (T = []) := by
            show T = []
            rw [HT.out, ← HX.out]; unfold takeF
            rw [if_neg (by rw [HX.out]; simp), if_neg (fun h => by
              have h2 : nextB y X = true := by unfold nextB; rw [HY.out, h.2, HX.out]; rfl
              rw [← HTB.out] at h2; cases h2)]
          go_wp2_with fail
          go_meet
          case rel => exact SAME.out _ [] HTT BV.out none 0 0 rfl (Sls.nil _) (fun g hg => by simp [Value.ownBlock] at hg)
        · have HTT : Hid (T = l ++ [X]) := by
            show T = _
            rw [HT.out, ← HX.out]; unfold takeF
            have h2 := HTB.out
            unfold nextB at h2
            rw [if_neg (by rw [HX.out]; simp), if_pos ⟨by have := HN.out; have := HN0.out; omega, by rw [← HY.out]; simpa using (Bool.and_eq_true_iff.1 h2.symm).2⟩]
          have hs1 : w.heap.size + 1 < V.heap.size := by have := BV.out.size; have := SW.out; omega
          have hs0 : w.heap.size < V.heap.size := by omega
          have HBV : Hid (Below w.heap.size w V) := BW.out.trans (BV.out.mono BW.out.size)
          have KB1 : Hid (Blk V w.heap.size #[.slice (some ⟨b, off, none⟩) n c] 59) := KB.out.below BV.out KB.out.lt
          have KX1 : Hid (Blk V (w.heap.size + 1) #[.int .i64 xn, .int .i64 seq, .int .i64 time, .bool false, .bool xe, .bool xk, .string xt] 91) := KX.out.below BV.out KX.out.lt
          have happ : App1 Tryz.prog V 55 91 55 7 n (skCells l) (.slice (some ⟨b, off, none⟩) n c) := by
            refine app1_any V _ _ _ i0 _ 7 48 Tryz.underlying55 hi hz0 hz1 hz2 rfl (by decide) n (skCells l) _ ?_ (fun u hu => by obtain ⟨z, _, hz⟩ := List.mem_flatMap.1 hu; exact oneSlot z u hz) (by unfold maxLen; omega) (by omega)
            have := HV.out.below HBV.out
            unfold Sls at this
            rw [← HN.out] at this
            exact this
          clear x0 x1 x2 x3 x4 x5 x6
          go_wp2_with fail
          refine region_app2 (by kernel_rfl) (by kernel_rfl) (by kernel_rfl) 55 91 i0 _ 7 48 Tryz.underlying55 hi hz0 hz1 hz2 rfl (by decide) 31 32 33 34 35 36 37 7 2 rfl rfl rfl rfl rfl rfl rfl rfl (by rfl) n (skCells l) (.slice (some ⟨b, off, none⟩) n c) happ
            [.int .i64 xn, .int .i64 seq, .int .i64 time, .bool false, .bool xe, .bool xk, .string xt] rfl ?hx1 (.pointer (some ⟨w.heap.size, 0, none⟩)) (.agg #[.int .i64 xn, .int .i64 seq, .int .i64 time, .bool false, .bool xe, .bool xk, .string xt]) 3 (by rfl) ?r0 ?r1 ?r2 rfl ?r4 ?r5 rfl ?r7 (by unfold maxLen; omega) (by omega) ?_
          case hx1 => exact oneSlot ⟨xn, ⟨seq, time, false, xe, xk, xt⟩⟩
          case r0 =>
            intro a' w'
            generalize a'.eval = ρ
            simp [execOp, go_sem]
          case r1 =>
            intro a' w' h
            have h2 : a'.eval (.tmp 2) = .pointer (some ⟨w.heap.size, 0, none⟩) := h.trans rfl
            clear h
            generalize a'.eval = ρ at *
            simp [execOp, go_sem, h2]
          case r2 =>
            intro a' w' h hb
            have c1 := (hb.cell (p := ⟨w.heap.size, 0, none⟩) (Blk.lt KB1.out)).trans b0
            generalize a'.eval = ρ at *
            simp [execOp, go_sem, h, c1]
          case r4 =>
            intro a' w' h hb
            have h2 : a'.eval (.tmp 3) = .pointer (some ⟨w.heap.size + 1, 0, none⟩) := h.trans rfl
            obtain ⟨y0, y1, y2, y3, y4, y5, y6⟩ := (KX1.out.below hb (Blk.lt KX1.out)).seven
            clear h
            generalize a'.eval = ρ at *
            simp [execOp, go_sem, h2, y0, y1, y2, y3, y4, y5, y6]
          case r5 =>
            intro a' w' h
            generalize a'.eval = ρ at *
            simp [execOp, go_sem, h]
          case r7 =>
            intro a' w'
            generalize a'.eval = ρ at *
            simp [execOp, go_sem]
          intro u0 u3 u5 v7 w7 hown7 hb7
          obtain ⟨a2, c2, hv7⟩ := Sl.len (Sl.of_owns hown7)
          subst hv7
          have FIN : Hid (Sls w7 (.slice a2 (n + 1) c2) (l ++ [X]) ∧ (∀ g, (Value.slice a2 (n + 1) c2).ownBlock = some g → W.heap.size ≤ g ∧ g < w7.heap.size) ∧ Below W.heap.size W w7) := by
            have hs := BV.out.size
            refine ⟨?_, fun g hg => by have := hown7.lt g hg; omega, BV.out.trans (hb7.mono hs)⟩
            refine Sls.of_owns (base := V.heap.size) ?_
            rw [skCells_append, skCells_one, List.length_append, ← HN.out, HX.out]
            exact hown7
          clear hown7 hb7 happ
          go_wp2_with fail
          go_meet
          case rel => exact SAME.out _ _ HTT FIN.out.2.2 a2 (n + 1) c2 (by rw [List.length_append, ← HN.out]; rfl) FIN.out.1 FIN.out.2.1
    · have HTT : Hid (T = [⟨xn, ⟨seq, time, true, xe, xk, xt⟩⟩]) := by
        show T = _
        rw [HT.out]; unfold takeF; rw [if_pos rfl]
      go_wp2_with fail
      go_meet
      case rel =>
        refine SAME.out _ _ HTT ((Below.refl _ W).alloc (Nat.le_refl _) _) (some ⟨W.heap.size, 0, none⟩) 1 1 rfl ?_ (fun g hg => by simp [Value.ownBlock] at hg; simp; omega)
        exact Sls.of_owns (base := W.heap.size) (World.ownsRow_lit W #[.int .i64 xn, .int .i64 seq, .int .i64 time, .bool true, .bool xe, .bool xk, .string xt] 1 (Nat.le_refl _) (by unfold maxLen; omega) rfl)
  case rest =>
    obtain ⟨aT, cT, rfl, HS, HG, KX, KR, KF, BC⟩ := hcut
    obtain ⟨j0, hj, hy0, hy1, hy2⟩ := info_parts Tryz.infoStr
    obtain ⟨X, hX⟩ : ∃ X : Sk, X = ⟨xn, ⟨seq, time, xf, xe, xk, xt⟩⟩ := ⟨_, rfl⟩
    have HX : Hid (X = ⟨xn, ⟨seq, time, xf, xe, xk, xt⟩⟩) := hX
    have HXE : Hid (X.p.e = xe) := by show _ = _; rw [hX]
    rw [← hX] at HT HRS
    clear hX HC HNU HV
    obtain ⟨m, hm⟩ : ∃ m, m = T.length := ⟨_, rfl⟩
    have HM : Hid (m = T.length) := hm
    rw [← hm] at HS HG
    rw [← hm]
    clear hm
    have hml : m ≤ 100 := by rw [HM.out, HT.out]; have := takeF_len l X; rw [← HN.out] at this; omega
    have xe4 := (Blk.seven KX.out).2.2.2.2.1
    have hsC := Blk.lt KF.out
    by_cases hw : 0 < m ∧ xe = true
    · obtain ⟨hm0, hxe⟩ := hw
      have HWF : Hid (addW l X = true) := by
        show addW l X = true
        unfold addW
        rw [← HT.out, ← HM.out, HXE.out, hxe, decide_eq_true hm0]; rfl
      have hd : decide (0 < m) = true := decide_eq_true hm0
      subst hxe
      obtain ⟨ao2, c2, hv2, hc2⟩ := Sls.parts HS.out
      have HC2 : Hid (∀ k, k < T.length → ∃ b off, ao2 = some ⟨b, off, none⟩ ∧ b < wc.heap.size ∧ At7 wc b (off + k * 7) (T[k]?.getD Sk.zero)) := hc2
      injection hv2 with q1 q2 q3
      subst q1
      obtain ⟨b, off, hao, hb, hat⟩ := hc2 0 (by rw [← HM.out]; omega)
      subst hao
      obtain ⟨y, hy⟩ : ∃ y, y = T[0]?.getD Sk.zero := ⟨_, rfl⟩
      rw [← hy] at hat
      simp only [Nat.zero_mul, Nat.add_zero] at hat
      obtain ⟨c0, c1, c2', c3, c4, c5, c6⟩ := hat
      have HSV : Hid (addT l X = y.p.time ∧ addK l X = y.p.k ∧ addP l X = texts T ∧ addO l X = []) := by
        refine ⟨?_, ?_, ?_, ?_⟩
        · unfold addT; rw [HWF.out, ← HT.out, hy]; rfl
        · unfold addK; rw [HWF.out, ← HT.out, hy]; rfl
        · unfold addP; rw [HWF.out, ← HT.out]; rfl
        · unfold addO; rw [HWF.out]; rfl
      have hmi : (0 : Int) < (m : Int) := by omega
      clear hc2 q2 q3 hy
      have HEQ : Hid (rT = y.p.time ∧ rK = y.p.k ∧ rW = true ∧ rO = [] ∧ rP = texts T) := ⟨HRS.out.1.trans HSV.out.1, HRS.out.2.1.trans HSV.out.2.1, HRS.out.2.2.1.trans HWF.out, HRS.out.2.2.2.1.trans HSV.out.2.2.2, HRS.out.2.2.2.2.trans HSV.out.2.2.1⟩
      go_wp2_with fail
      go_region
      go_wp2_with fail
      clear c0 c1 c2' c3 c4 c5 c6 xe4
      have hP : Hid (b < wc.heap.size) := hb
      go_loopw [10] (fun i wr => ∃ (k : Nat) (pv : Value), k ≤ m ∧ i = .int .i64 k ∧ Hid (Blk wr wc.heap.size #[.int .i64 y.p.time, .bool y.p.k, pv] 30) ∧ Hid (wr.ownsRow (wc.heap.size + 1) 9 1 pv k ((texts (T.take k)).map Value.string)) ∧ Hid (Below wc.heap.size wc wr))
        (fun i _ => m - (intOf i).toNat)
      case atStart => exact ⟨0, .slice none 0 0, Nat.zero_le _, rfl, Blk.new wc _ _, World.ownsRow_nil _ _ _ _, ((Below.refl _ wc).alloc (Nat.le_refl _) _).drew⟩
      case round =>
        obtain ⟨k, pv, hk, rfl, K1, HO, HB⟩ := hrel
        obtain ⟨d0, d1, d2⟩ := Blk.three K1.out
        have hsz := Blk.lt K1.out
        by_cases hlt : k < m
        · obtain ⟨b', off', hbo, hbb, hat⟩ := HC2.out k (by rw [← HM.out]; exact hlt)
          cases hbo
          obtain ⟨c0, c1, c2', c3, c4, c5, c6⟩ := hat.below HB.out hbb
          obtain ⟨z, hz⟩ : ∃ z, z = T[k]?.getD Sk.zero := ⟨_, rfl⟩
          rw [← hz] at c0 c1 c2' c3 c4 c5 c6
          have HZ : Hid (z = T[k]?.getD Sk.zero) := hz
          clear hz hat
          have hlti : (k : Int) < (m : Int) := by omega
          have own1 : Hid ((wr.alloc (.cells #[.string z.p.t] 9)).drew.ownsRow (wc.heap.size + 1) 9 1 pv k ((texts (T.take k)).map Value.string)) := HO.out.alloc _
          have new1 : Hid (∀ j u, [Value.string z.p.t][j]? = some u → (wr.alloc (.cells #[.string z.p.t] 9)).drew.cell? ((⟨wr.heap.size, 0, none⟩ : Addr).add j) = some u) := fun j u hj => by
            match j, hj with
            | 0, hj =>
              simp at hj; subst hj
              exact (Blk.new wr #[.string z.p.t] 9).one
          have aft : Hid (∀ v' w2, w2.ownsRow (wc.heap.size + 1) 9 1 v' (k + 1) ((texts (T.take k)).map Value.string ++ [.string z.p.t]) → (wr.alloc (.cells #[.string z.p.t] 9)).drew.grownBy w2 pv.ownBlock →
              ∃ a' c', v' = .slice a' (k + 1) c' ∧ w2.cell? ⟨wc.heap.size, 2, none⟩ = some pv ∧ w2.frozen? ⟨wc.heap.size, 2, none⟩ = false ∧
                Hid (∀ w3, Hid (w3 = w2.setCell ⟨wc.heap.size, 2, none⟩ (.slice a' (k + 1) c')) → Blk w3 wc.heap.size #[.int .i64 y.p.time, .bool y.p.k, .slice a' (k + 1) c'] 30 ∧ w3.ownsRow (wc.heap.size + 1) 9 1 (.slice a' (k + 1) c') (k + 1) ((texts (T.take (k + 1))).map Value.string) ∧ Below wc.heap.size wc w3)) := fun v' w2 ho2 hg2 => by
            obtain ⟨a', c', hv'⟩ := Sl.len (Sl.of_owns ho2)
            have k12 : Blk w2 wc.heap.size #[.int .i64 y.p.time, .bool y.p.k, pv] 30 := (hg2.block _ (by show _ < (wr.alloc _).heap.size; simp; omega) (fun e => by have := (HO.out.lt _ e.symm).1; omega)).trans (K1.out.alloc _)
            refine ⟨a', c', hv', k12.three.2.2, k12.free 2, fun w3 hw3 => ?_⟩
            rw [hw3.out]
            refine ⟨k12.set 2 _, ?_, ?_⟩
            · have e : (texts (T.take (k + 1))).map Value.string = (texts (T.take k)).map Value.string ++ [.string z.p.t] := by
                rw [take_one (by rw [← HM.out]; exact hlt) Sk.zero, ← HZ.out]; simp [texts]
              rw [e, ← hv']
              exact ownsRow_setCell_below ho2 (by show wc.heap.size < _; omega) _
            · exact (((HB.out.alloc HB.out.size _).drew).grown hg2 (by have := HB.out.size; show _ ≤ (wr.alloc _).heap.size; simp; omega) (fun j hj => by have := (HO.out.lt j hj).1; omega)).setCell (by simp) _
          have l1 : Hid (k + 1 ≤ maxLen) := by show _ ≤ _; unfold maxLen; omega
          have l2 : Hid ((k + 1) * 16 ≤ 140737488355328) := by show _ ≤ _; omega
          have l3 : Hid (wc.heap.size + 1 ≤ (wr.alloc (.cells #[.string z.p.t] 9)).drew.heap.size) := by show _ ≤ (wr.alloc _).heap.size; simp; omega
          have hbw : b < wr.heap.size := by omega
          clear HO K1
          go_wp2_with fail
          go_region_law (refine step_append_own2 rfl (.tmp 64) (.tmp 71) 28 rfl (wc.heap.size + 1) 9 j0 _ 1 16 Tryz.underlying28 hj hy0 hy1 hy2 rfl (by decide) pv k ((texts (T.take k)).map Value.string) (by simp [Act.eval]) own1.out ⟨wr.heap.size, 0, none⟩ 1 1 [.string z.p.t] (by simp [Act.eval]) rfl new1.out (by intro u hu; simp at hu; subst hu; rfl) l1.out l2.out l3.out ?_; intro v' w2 ho2 hg2 _; obtain ⟨a', c', hv', g0, g1, G⟩ := aft.out v' w2 ho2 hg2; clear ho2 hg2; subst hv')
          all_goals
            go_wp2_with fail
            go_roundw
            case rel =>
              obtain ⟨e1, e2, e3⟩ := G.out _ rfl
              exact ⟨k + 1, _, by omega, by go_num, e1, e2, e3⟩
            case measure => simp [intOf]; omega
        · have hkl : k = m := by omega
          subst hkl
          have kr := Blk.below KR.out HB.out (Blk.lt KR.out)
          have kf := Blk.below KF.out HB.out (Blk.lt KF.out)
          have r0 := kr.one
          obtain ⟨r1, r2, r3⟩ := kf.three
          have rf := kr.free
          have ff := kf.free
          have ho := HO.out
          rw [HM.out, List.take_length, ← HM.out] at ho
          obtain ⟨a', c', hpv⟩ := Sl.len (Sl.of_owns ho)
          subst hpv
          have HO2 : Hid (wr.ownsRow (wc.heap.size + 1) 9 1 (.slice a' k c') k ((texts T).map Value.string)) := ho
          have FINW : Hid (∀ w3 : World, w3.heap.size = wr.heap.size → (∀ j, j ≠ w.heap.size + 1 + 1 → j ≠ w.heap.size + 1 + 1 + 1 → w3.heap[j]? = wr.heap[j]?) → Strs w3 (.slice a' k c') (texts T) ∧ (∀ g, (Value.slice a' k c').ownBlock = some g → w.heap.size ≤ g ∧ ∃ cur, Blk w3 g cur 9)) := fun w3 h1 h2 => by
            have e : (texts T).length = k := by rw [HM.out]; simp [texts]
            constructor
            · show Sl _ _ (texts T).length 1 _
              rw [e]
              exact Sl.same (Sl.of_owns HO2.out) (by omega) (fun g hg => by obtain ⟨q1, cur, q2⟩ := owns_blk HO2.out hg; exact h2 g (by omega) (by omega))
            · intro g hg
              obtain ⟨q1, cur, q2⟩ := owns_blk HO2.out hg
              exact ⟨by omega, cur, (h2 g (by omega) (by omega)).trans q2⟩
          have BF : Hid (Below w.heap.size w wr) := BC.out.trans (HB.out.mono BC.out.size)
          clear ho HO K1 kr kf
          have hne1 : ¬ wc.heap.size = w.heap.size + 1 + 1 := by omega
          have hne2 : ¬ wc.heap.size = w.heap.size + 1 + 1 + 1 := by omega
          go_wp2_with fail
          go_region
          all_goals
            go_wp2
            refine bodyPost_ret (v := .tuple #[.agg #[.slice none 0 0], .agg #[.int .i64 y.p.time, .bool y.p.k, .slice a' k c'], .bool true]) (by simp [results, Tryz.results120, go_sem, r0, r1, r2, r3]) rfl ?_
            obtain ⟨w1, w2, w3, w4, w5⟩ := HEQ.out
            rw [w1, w2, w3, w4, w5]
            refine ⟨_, _, rfl, Sls.nil _, ?_⟩
            rw [← and_assoc]
            refine ⟨FINW.out _ (by simp) (fun j e1 e2 => ?_), fun g hg => by simp [Value.ownBlock] at hg, ?_⟩
            · show (World.setCell _ _ _).heap[j]? = _
              rw [Below.heap_setCell _ _ _ _ (by exact e2), Below.heap_setCell _ _ _ _ (by exact e2), Below.heap_setCell _ _ _ _ (by exact e2), Below.heap_setCell _ _ _ _ (by exact e1)]
            · exact ((((BF.out.setCell (by simp; omega) _).setCell (by simp; omega) _).setCell (by simp; omega) _).setCell (by simp; omega) _).drew
    · have HWF : Hid (addW l X = false) := by
        show addW l X = false
        unfold addW
        rw [← HT.out, ← HM.out, HXE.out]
        cases xe
        · simp
        · simp only [Bool.and_true, decide_eq_false_iff_not]; intro h0; exact hw ⟨h0, rfl⟩
      have HSV : Hid (addT l X = 0 ∧ addK l X = false ∧ addP l X = [] ∧ addO l X = if m = 4 then [] else T) := by
        refine ⟨?_, ?_, ?_, ?_⟩
        · unfold addT; rw [HWF.out]; rfl
        · unfold addK; rw [HWF.out]; rfl
        · unfold addP; rw [HWF.out]; rfl
        · unfold addO; rw [HWF.out, ← HT.out, ← HM.out]; rfl
      have hg : decide (0 < m) = false ∨ decide (0 < m) = true ∧ xe = false := by
        by_cases h : 0 < m
        · right
          refine ⟨decide_eq_true h, ?_⟩
          cases he : xe
          · rfl
          · exact absurd ⟨h, he⟩ hw
        · left; exact decide_eq_false h
      have r0 := Blk.one KR.out
      obtain ⟨r1, r2, r3⟩ := Blk.three KF.out
      have rf := Blk.free KR.out
      have ff := Blk.free KF.out
      have HEQ : Hid (rT = 0 ∧ rK = false ∧ rW = false ∧ rO = (if m = 4 then [] else T) ∧ rP = []) := ⟨HRS.out.1.trans HSV.out.1, HRS.out.2.1.trans HSV.out.2.1, HRS.out.2.2.1.trans HWF.out, HRS.out.2.2.2.1.trans HSV.out.2.2.2, HRS.out.2.2.2.2.trans HSV.out.2.2.1⟩
      clear hw HSV
      rcases hg with hd | ⟨hd, hxe⟩
      all_goals
        by_cases h4 : m = 4
        · have h4i : ((m : Int) == 4) = true := by simp; omega
          have HO4 : Hid (rO = []) := by show _ = _; rw [HEQ.out.2.2.2.1, if_pos h4]
          clear h4
          go_wp2
          refine bodyPost_ret (v := .tuple #[.agg #[.slice none 0 0], .agg #[.int .i64 0, .bool false, .slice none 0 0], .bool false]) (by simp [results, Tryz.results120, go_sem, r0, r1, r2, r3]) rfl ?_
          rw [HEQ.out.1, HEQ.out.2.1, HEQ.out.2.2.1, HO4.out, HEQ.out.2.2.2.2]
          refine ⟨_, _, rfl, Sls.nil _, Strs.nil _, fun g hg => by simp [Value.ownBlock] at hg, fun g hg => by simp [Value.ownBlock] at hg, ?_⟩
          exact ((((BC.out.setCell (by simp; omega) _).setCell (by simp; omega) _).setCell (by simp; omega) _).setCell (by simp; omega) _)
        · have h4i : ((m : Int) == 4) = false := by simp; omega
          have HO4 : Hid (rO = T) := by show _ = _; rw [HEQ.out.2.2.2.1, if_neg h4]
          clear h4
          go_wp2
          refine bodyPost_ret (v := .tuple #[.agg #[.slice aT m cT], .agg #[.int .i64 0, .bool false, .slice none 0 0], .bool false]) (by simp [results, Tryz.results120, go_sem, r0, r1, r2, r3]) rfl ?_
          rw [HEQ.out.1, HEQ.out.2.1, HEQ.out.2.2.1, HO4.out, HEQ.out.2.2.2.2]
          refine ⟨_, _, rfl, Sl.same HS.out (by simp) (fun g hg => ?_), Strs.nil _, fun g hg => by simp [Value.ownBlock] at hg, fun g hg => by have := HG.out g hg; simp; omega, ?_⟩
          · have h1 := HG.out g hg
            have e1 : g ≠ w.heap.size + 1 + 1 := by omega
            have e2 : g ≠ w.heap.size + 1 + 1 + 1 := by omega
            rw [Below.heap_setCell _ _ _ _ (by exact e2), Below.heap_setCell _ _ _ _ (by exact e2), Below.heap_setCell _ _ _ _ (by exact e2), Below.heap_setCell _ _ _ _ (by exact e1)]
          · exact ((((BC.out.setCell (by simp; omega) _).setCell (by simp; omega) _).setCell (by simp; omega) _).setCell (by simp; omega) _)

end Go.Proofs.YtnpaejknoipicafGreat
