/-
  The walk of switchbacklaw.FrameWhole.
-/
import Derived.Test.YtdcdfpjjdobmhabFrameBegun
import Derived.Test.YtdcdfpjjdobmhabFrameMath3
import Derived.Test.YtdcdfpjjdobmhabRegApp
import Derived.BigQuiet
namespace Go.Proofs.Ytdcdfpjjdobmhab
open Go.RowKit

set_option maxHeartbeats 4000000 in
set_option maxRecDepth 100000 in
theorem frameWhole_any (bv : Value) (bl : List Sk) (x : Sk) (w : World) (hb : Sls w bv bl) (hbl : bl.length ≤ 9223372036854775807) :
    Calls Try.prog 8 #[.agg #[bv], x.val] w fun e w' => e = .returned (.bool true) ∧ Below w.heap.size w w' := by
  obtain ⟨i0, hi, hz0, hz1, hz2⟩ := info_parts Try.infoSlot
  obtain ⟨ba, bc, eb⟩ := hb.len
  obtain ⟨bn, hbn⟩ : ∃ n, n = bl.length := ⟨_, rfl⟩
  rw [← hbn] at eb
  obtain ⟨R, hR⟩ : ∃ R, R = addR bl x := ⟨_, rfl⟩
  obtain ⟨E, hE⟩ : ∃ E, E = addE bl x := ⟨_, rfl⟩
  obtain ⟨rO, rT, rK, rP, rW⟩ := R
  obtain ⟨nO, hnO⟩ : ∃ n, n = rO.length := ⟨_, rfl⟩
  obtain ⟨nP, hnP⟩ : ∃ n, n = rP.length := ⟨_, rfl⟩
  have HA : Hid (∀ w' : World, Sls w' bv bl → Calls Try.prog 24 #[.agg #[bv], .agg #[.int .i64 x.n, .int .i64 x.p.seq, .int .i64 x.p.time, .bool x.p.f, .bool x.p.e, .bool x.p.k, .string x.p.t]] w' fun e w'' => ∃ a1 c1 a2 c2, e = .returned (.tuple #[.agg #[.slice a1 nO c1], .agg #[.int .i64 rT, .bool rK, .slice a2 nP c2], .bool rW, .int .i64 E]) ∧ Hid (Sls w'' (.slice a1 nO c1) rO) ∧ Hid (Strs w'' (.slice a2 nP c2) rP) ∧ Below w'.heap.size w' w'') := fun w' hs => by
    refine (frameAdd_any bv bl x w' hs hbl).mono ?_
    rw [← hR, ← hE]
    rintro e w'' ⟨ov, qv, rfl, ⟨h1, h2, _⟩, hb⟩
    obtain ⟨a1, c1, rfl⟩ := h1.len
    obtain ⟨a2, c2, rfl⟩ := h2.len
    simp only at h1 h2
    rw [← hnO] at h1
    rw [← hnP] at h2
    simp only [← hnO, ← hnP]
    exact ⟨a1, c1, a2, c2, rfl, h1, h2, hb⟩
  have HEN : Hid (¬ E = 0 → rW = false ∧ nO = 0 ∧ nP = 0) := fun h => by
    have hr : addR bl x = ⟨[], 0, false, [], false⟩ := by unfold addR; rw [if_neg (hE ▸ h)]
    rw [← hR] at hr
    injection hr with r1 r2 r3 r4 r5
    exact ⟨r5, by rw [hnO, r1]; rfl, by rw [hnP, r4]; rfl⟩
  have HEZ : Hid (E = 0 → rO = addO bl x ∧ rT = addT bl x ∧ rK = addK bl x ∧ rP = addP bl x ∧ rW = addW bl x) := fun h => by
    have hr : addR bl x = ⟨addO bl x, addT bl x, addK bl x, addP bl x, addW bl x⟩ := by unfold addR; rw [if_pos (hE ▸ h)]
    rw [← hR] at hr
    injection hr with r1 r2 r3 r4 r5
    exact ⟨r1, r2, r3, r4, r5⟩
  have HEE : Hid (E = addE bl x) := hE
  have HNO : Hid (nO = rO.length) := hnO
  have HNP : Hid (nP = rP.length) := hnP
  have HBN : Hid (bn = bl.length) := hbn
  have HB0 : Hid (Sls w bv bl) := hb
  clear hb hR hE hnO hnP hbn hbl
  subst eb
  obtain ⟨X, hX⟩ : ∃ X : Sk, X = x := ⟨_, rfl⟩
  have HX : Hid (X = x) := hX
  clear hX
  simp only [Sk.val]
  go_enter Try.func8, Try.ntmps8
  go_wp2_with fail
  refine (HA.out _ ((HB0.out.alloc _).alloc _)).mono ?_
  rintro e w1 ⟨a1, c1, a2, c2, rfl, s1, t1, hb1⟩
  obtain ⟨kb, kx, bb1, hs1⟩ := blocks2 hb1
  have KB : Hid (Blk w1 w.heap.size #[.slice ba bn bc] 54) := kb
  have KX : Hid (Blk w1 (w.heap.size + 1) #[.int .i64 x.n, .int .i64 x.p.seq, .int .i64 x.p.time, .bool x.p.f, .bool x.p.e, .bool x.p.k, .string x.p.t] 35) := kx
  have B1 : Hid (Below w.heap.size w w1) := bb1
  clear hb1 kb kx bb1 HA
  go_wp2_with fail
  refine (frameBegun_any _).mono ?_
  rintro e w2 ⟨rfl, hb2⟩
  obtain ⟨ka, kg, bb2, hs2⟩ := blocks2 hb2
  have KA : Hid (Blk w2 w1.heap.size #[.slice a1 nO c1] 54) := ka
  have KG : Hid (Blk w2 (w1.heap.size + 1) #[.int .i64 rT, .bool rK, .slice a2 nP c2] 52) := kg
  have KB2 : Hid (Blk w2 w.heap.size #[.slice ba bn bc] 54) := Blk.below KB.out bb2 (Blk.lt KB.out)
  have KX2 : Hid (Blk w2 (w.heap.size + 1) #[.int .i64 x.n, .int .i64 x.p.seq, .int .i64 x.p.time, .bool x.p.f, .bool x.p.e, .bool x.p.k, .string x.p.t] 35) := Blk.below KX.out bb2 (Blk.lt KX.out)
  have S1 : Hid (Sls w2 (.slice a1 nO c1) rO) := s1.out.below bb2
  have T1 : Hid (Strs w2 (.slice a2 nP c2) rP) := t1.out.below bb2
  have B2 : Hid (Below w.heap.size w w2) := B1.out.trans (bb2.mono B1.out.size)
  clear hb2 ka kg bb2 KB KX s1 t1 B1
  have k0 := Blk.one KA.out
  obtain ⟨g0, g1, g2⟩ := Blk.three KG.out
  obtain ⟨x0, x1, x2, x3, x4, x5, x6⟩ := Blk.seven KX2.out
  by_cases hE0 : E = 0
  case neg =>
    obtain ⟨q1, q2, q3⟩ := HEN.out hE0
    subst q1 q2 q3
    go_wp2
    go_ret
    exact ⟨rfl, B2.out⟩
  obtain ⟨r1, r2, r3, r4, r5⟩ := HEZ.out hE0
  have hEA : addE bl x = 0 := by rw [← HEE.out]; exact hE0
  subst hE0
  cases hW : rW
  · rw [hW] at r5
    obtain ⟨h1, h2, h3⟩ := open_last hEA r5.symm
    have hn0 : nP = 0 := by rw [HNP.out, r4, h1]; rfl
    rw [← r1] at h2 h3
    have hn3 : nO ≤ 3 := by rw [HNO.out]; exact h2
    have HLAST : Hid (0 < rO.length → rO[rO.length - 1]?.getD Sk.zero = x) := h3
    subst hn0
    subst hW
    clear h1 h2 h3 r1 r2 r3 r4 r5 hEA
    by_cases h0 : nO = 0
    · subst h0
      go_wp2_with fail
      go_quiet (fail)
      go_wp2
      go_ret
      exact ⟨rfl, below_drewN B2.out _⟩
    · obtain ⟨ao, c, e1, hc⟩ := S1.out.parts
      obtain ⟨b, off, hao, hbb, hat⟩ := hc (rO.length - 1) (by rw [← HNO.out]; omega)
      rw [← HNO.out] at e1
      injection e1 with e1 _ _
      subst e1
      rw [HLAST.out (by rw [← HNO.out]; omega)] at hat
      obtain ⟨n1, hn1⟩ : ∃ n1, n1 = rO.length - 1 := ⟨_, rfl⟩
      rw [← hn1] at hat
      obtain ⟨y0, y1, y2, y3, y4, y5, y6⟩ := hat
      have hni : (nO : Int) - 1 = (n1 : Int) := by have := HNO.out; omega
      have hn1i : (n1 : Int) < (nO : Int) := by omega
      have hn4i : (nO : Int) < 4 := by omega
      have hn0i : ((nO : Int) == 0) = false := by simpa using h0
      have heq := eql_slot x x
      rw [(Sk.eqB_iff x x).2 rfl] at heq
      simp only [Sk.val] at heq
      subst hao
      clear hn1 hc h0
      go_wp2_with fail
      go_quiet (fail)
      go_wp2
      go_ret
      exact ⟨rfl, below_drewN B2.out _⟩
  · rw [hW] at r5
    obtain ⟨k, WH⟩ := whole_of hEA r5.symm
    have hx9 := addE_zero hEA
    have hbn3 : bn ≤ 3 := by rw [HBN.out]; exact hx9.2.2.1
    have hPk : nP + k = bn + 1 := by rw [HNP.out, r4, HBN.out]; exact WH.len
    have hO0 : nO = 0 := by rw [HNO.out, r1, WH.opn]; rfl
    have hxe := WH.last
    have hkl : k ≤ bn := by rw [HBN.out]; exact WH.le
    have hck := WH.chk
    rw [← r2, ← r4] at hck
    have HFST : Hid (0 < k → x.p.f = true) := WH.first
    obtain ⟨L, hL⟩ : ∃ L, L = bl ++ [x] := ⟨_, rfl⟩
    have HL : Hid (L = bl ++ [x]) := hL
    have HKEY : Hid (rK = (L[k]?.getD Sk.zero).p.k) := by show _ = _; rw [r3, hL]; exact WH.key
    have HEACH : Hid (∀ i, k ≤ i → i < bn + 1 → (L[i]?.getD Sk.zero).p.f = decide (i = k) ∧ rP[i - k]?.getD ByteArray.empty = (L[i]?.getD Sk.zero).p.t ∧ (L[i]?.getD Sk.zero).p.time = rT ∧ (k < i → (L[i]?.getD Sk.zero).n = (L[i - 1]?.getD Sk.zero).n + 1 ∧ 0 ≤ (L[i - 1]?.getD Sk.zero).n ∧ (L[i - 1]?.getD Sk.zero).n ≤ 1000000000)) := fun i h1 h2 => by
      rw [hL, r4, r2]; exact WH.each i h1 (by rw [← HBN.out]; exact h2)
    have HCF : Hid (∀ w' : World, Strs w' (.slice a2 nP c2) rP → Calls Try.prog 30 #[.agg #[.int .i64 rT, .bool rK, .slice a2 nP c2]] w' fun e w'' => e = .returned (.int .i64 0) ∧ Below w'.heap.size w' w'') := fun w' hs => by
      rw [← hck]; exact frameCheck_any rT rK _ rP w' hs (by rw [← HNP.out]; omega)
    subst hO0
    subst hW
    rw [hxe] at x4
    clear hck r1 r2 r3 r4 r5 hEA WH hx9 hL
    have KX3 : Hid (Blk w2 (w.heap.size + 1) #[.int .i64 x.n, .int .i64 x.p.seq, .int .i64 x.p.time, .bool x.p.f, .bool true, .bool x.p.k, .string x.p.t] 35) := by rw [← hxe]; exact KX2.out
    have b0 := Blk.one KB2.out
    go_wp2_with fail
    have happ : App1 Try.prog w2 29 35 29 7 bn (skCells bl) (.slice ba bn bc) := by
      refine app1_any w2 _ _ _ i0 _ 7 48 Try.underlying29 hi hz0 hz1 hz2 rfl (by decide) bn (skCells bl) _ ?_ (sk_one bl) (by unfold maxLen; omega) (by omega)
      have := HB0.out.below B2.out
      unfold Sls at this
      rw [← HBN.out] at this
      exact this
    refine region_app2 (by kernel_rfl) (by kernel_rfl) (by kernel_rfl) 29 35 i0 _ 7 48 Try.underlying29 hi hz0 hz1 hz2 rfl (by decide) 68 69 70 71 72 73 74 9 2 rfl rfl rfl rfl rfl rfl rfl rfl (by rfl) bn (skCells bl) (.slice ba bn bc) happ
      [.int .i64 x.n, .int .i64 x.p.seq, .int .i64 x.p.time, .bool x.p.f, .bool true, .bool x.p.k, .string x.p.t] rfl ?hx1 (.pointer (some ⟨w.heap.size, 0, none⟩)) (.agg #[.int .i64 x.n, .int .i64 x.p.seq, .int .i64 x.p.time, .bool x.p.f, .bool true, .bool x.p.k, .string x.p.t]) 3 (by rfl) ?r0 ?r1 ?r2 rfl ?r4 ?r5 rfl ?r7 (by unfold maxLen; omega) (by omega) ?_
    case hx1 => exact oneSlot ⟨x.n, ⟨x.p.seq, x.p.time, x.p.f, true, x.p.k, x.p.t⟩⟩
    case r0 =>
      intro a' w'
      generalize a'.eval = ρ
      simp [execOp, go_sem]
    case r1 =>
      intro a' w' h
      have h2 : a'.eval (.tmp 2) = .pointer (some ⟨w.heap.size, 0, none⟩) := h.trans rfl
      clear h
      generalize a'.eval = ρ at *
      simp [execOp, go_sem, h2]
    case r2 =>
      intro a' w' h hb
      have c1 := (hb.cell (p := ⟨w.heap.size, 0, none⟩) (Blk.lt KB2.out)).trans b0
      generalize a'.eval = ρ at *
      simp [execOp, go_sem, h, c1]
    case r4 =>
      intro a' w' h hb
      have h2 : a'.eval (.tmp 3) = .pointer (some ⟨w.heap.size + 1, 0, none⟩) := h.trans rfl
      obtain ⟨y0, y1, y2, y3, y4, y5, y6⟩ := (KX3.out.below hb (Blk.lt KX3.out)).seven
      clear h
      generalize a'.eval = ρ at *
      simp [execOp, go_sem, h2, y0, y1, y2, y3, y4, y5, y6]
    case r5 =>
      intro a' w' h
      generalize a'.eval = ρ at *
      simp [execOp, go_sem, h]
    case r7 =>
      intro a' w'
      generalize a'.eval = ρ at *
      simp [execOp, go_sem]
    intro u0 u3 u5 v7 w7 hown7 hb7
    obtain ⟨a7, c7, hv7⟩ := Sl.len (Sl.of_owns hown7)
    subst hv7
    have S7 : Hid (Sls w7 (.slice a7 (bn + 1) c7) L) := by
      refine Sls.of_owns (base := w2.heap.size) ?_
      rw [HL.out, skCells_append, skCells_one, List.length_append, ← HBN.out]
      have e : x.cells.toList = [.int .i64 x.n, .int .i64 x.p.seq, .int .i64 x.p.time, .bool x.p.f, .bool true, .bool x.p.k, .string x.p.t] := by unfold Sk.cells; rw [hxe]
      rw [e]; exact hown7
    have KA7 := Blk.below KA.out hb7 (Blk.lt KA.out)
    have KG7 : Hid (Blk w7 (w1.heap.size + 1) #[.int .i64 rT, .bool rK, .slice a2 nP c2] 52) := Blk.below KG.out hb7 (Blk.lt KG.out)
    have KX7 : Hid (Blk w7 (w.heap.size + 1) #[.int .i64 x.n, .int .i64 x.p.seq, .int .i64 x.p.time, .bool x.p.f, .bool true, .bool x.p.k, .string x.p.t] 35) := Blk.below KX3.out hb7 (Blk.lt KX3.out)
    have T7 : Hid (Strs w7 (.slice a2 nP c2) rP) := T1.out.below hb7
    have B7 : Hid (Below w.heap.size w w7) := B2.out.trans (hb7.mono B2.out.size)
    clear k0 g0 g1 g2 x0 x1 x2 x3 x4 x5 x6 b0 hown7 hb7 happ KA KG KB2 KX2 KX3 S1 T1 B2
    have k0 := KA7.one
    obtain ⟨g0, g1, g2⟩ := Blk.three KG7.out
    have x4 := (Blk.seven KX7.out).2.2.2.2.1
    have hki : (bn : Int) + 1 - (nP : Int) = (k : Int) := by omega
    clear KA7
    go_wp2_with fail
    refine (HCF.out _ T7.out).mono ?_
    rintro e w8 ⟨rfl, hb8⟩
    have S8 : Hid (Sls w8 (.slice a7 (bn + 1) c7) L) := S7.out.below hb8
    have KG8 : Hid (Blk w8 (w1.heap.size + 1) #[.int .i64 rT, .bool rK, .slice a2 nP c2] 52) := Blk.below KG7.out hb8 (Blk.lt KG7.out)
    have KX8 : Hid (Blk w8 (w.heap.size + 1) #[.int .i64 x.n, .int .i64 x.p.seq, .int .i64 x.p.time, .bool x.p.f, .bool true, .bool x.p.k, .string x.p.t] 35) := Blk.below KX7.out hb8 (Blk.lt KX7.out)
    have T8 : Hid (Strs w8 (.slice a2 nP c2) rP) := T7.out.below hb8
    have B8 : Hid (Below w.heap.size w w8) := B7.out.trans (hb8.mono B7.out.size)
    clear hb8 S7 KG7 KX7 T7 B7 k0 g0 g1 g2 x4
    have x3 := (Blk.seven KX8.out).2.2.2.1
    have hLn : L.length = bn + 1 := by rw [HL.out, List.length_append, HBN.out]; rfl
    obtain ⟨ao, cc, e1, hc⟩ := S8.out.parts
    rw [hLn] at e1 hc
    injection e1 with e1 _ e3
    subst e1
    have HC : Hid (∀ i, i < bn + 1 → ∃ b off, a7 = some ⟨b, off, none⟩ ∧ b < w8.heap.size ∧ At7 w8 b (off + i * 7) (L[i]?.getD Sk.zero)) := hc
    obtain ⟨po, pc, e4, hp⟩ := T8.out.parts
    rw [← HNP.out] at e4 hp
    injection e4 with e4 _ _
    subst e4
    have HP : Hid (∀ i, i < nP → ∃ b off, a2 = some ⟨b, off, none⟩ ∧ b < w8.heap.size ∧ w8.cell? ⟨b, off + i, none⟩ = some (.string (rP[i]?.getD ByteArray.empty))) := hp
    clear hc hp e3
    have hk0 : ¬ (k : Int) < 0 := by omega
    by_cases hkk : 0 < k
    all_goals
      first
        | (have hkI : (0 : Int) < (k : Int) := by omega
           have hxf := HFST.out hkk
           rw [hxf] at x3
           clear hxf)
        | (have hkI : ¬ (0 : Int) < (k : Int) := by omega)
      go_wp2_with fail
      clear x3
      go_loopw [11] (fun i wr => ∃ j : Nat, k ≤ j ∧ j ≤ bn + 1 ∧ i = .int .i64 j ∧ Hid (Below w8.heap.size w8 wr))
        (fun i _ => bn + 1 - (intOf i).toNat)
      case atStart => exact ⟨k, Nat.le_refl _, by omega, rfl, Below.refl _ _⟩
      case round =>
        obtain ⟨j, hj1, hj2, rfl, HB⟩ := hrel
        obtain ⟨g0, g1, g2⟩ := Blk.three (Blk.below KG8.out HB.out (Blk.lt KG8.out))
        by_cases hlt : j < bn + 1
        · obtain ⟨b, off, rfl, hbl, hat⟩ := HC.out j hlt
          obtain ⟨d, hdd⟩ : ∃ d, d = j - k := ⟨_, rfl⟩
          obtain ⟨b2, off2, rfl, hbl2, hpt⟩ := HP.out d (by omega)
          obtain ⟨q1, q2, q3, q4⟩ := HEACH.out j hj1 hlt
          rw [← hdd] at q2
          rw [q2] at hpt
          have hpt2 := (HB.out.cell (p := ⟨b2, off2 + d, none⟩) hbl2).trans hpt
          obtain ⟨y0, y1, y2, y3, y4, y5, y6⟩ := hat.below HB.out hbl
          rw [q1] at y3
          rw [q3] at y2
          have hlti : (j : Int) < ((bn + 1 : Nat) : Int) := by omega
          have hji : (j : Int) < (bn : Int) + 1 := by omega
          have hdi : (j : Int) - (k : Int) = (d : Int) := by omega
          have hdl : (d : Int) < (nP : Int) := by omega
          have hdw : IntKind.i64.wrap (d : Int) = (d : Int) := by rw [IntKind.wrap_i64]; omega
          clear hpt hat q1 q2 q3 hdd
          by_cases hjk : j = k
          · have hd : decide (j = k) = true := by simpa using hjk
            have hdI : ((j : Int) == (k : Int)) = true := by simp; omega
            have hgt : decide (k < j) = false := decide_eq_false (by omega)
            rw [hd] at y3
            clear hd hjk q4
            go_wp2_with fail
            go_quiet (fail)
            go_wp2_with fail
            go_roundw
            case rel => exact ⟨j + 1, by omega, by omega, by go_num, below_drewN HB.out _⟩
            case measure => simp [intOf]; omega
          · have hd : decide (j = k) = false := by simpa using hjk
            have hdI : ((j : Int) == (k : Int)) = false := by simp; omega
            have hgt : decide (k < j) = true := decide_eq_true (by omega)
            rw [hd] at y3
            obtain ⟨j1, hj1'⟩ : ∃ j1, j1 = j - 1 := ⟨_, rfl⟩
            obtain ⟨b3, off3, e3, hbl3, hat3⟩ := HC.out j1 (by omega)
            injection e3 with e3
            injection e3 with e3 e4
            subst e3 e4
            obtain ⟨q5, q6, q7⟩ := q4 (by omega)
            rw [← hj1'] at q5 q6 q7
            rw [q5] at y0
            have z0 := (hat3.below HB.out hbl3).1
            obtain ⟨zn, hzn⟩ : ∃ zn, zn = (L[j1]?.getD Sk.zero).n := ⟨_, rfl⟩
            rw [← hzn] at y0 z0 q6 q7
            have hj1i : (j : Int) - 1 = (j1 : Int) := by omega
            have hj1l : (j1 : Int) < (bn : Int) + 1 := by omega
            have hj1w : IntKind.i64.wrap (j1 : Int) = (j1 : Int) := by rw [IntKind.wrap_i64]; omega
            have hznw : IntKind.i64.wrap (zn + 1) = zn + 1 := by rw [IntKind.wrap_i64]; omega
            clear hd hjk q4 q5 hat3 hzn hj1'
            go_wp2_with fail
            go_quiet (fail)
            go_wp2_with fail
            go_roundw
            case rel => exact ⟨j + 1, by omega, by omega, by go_num, below_drewN HB.out _⟩
            case measure => simp [intOf]; omega
        · have hjl : j = bn + 1 := by omega
          subst hjl
          obtain ⟨b, off, rfl, hbl, hat⟩ := HC.out k (by omega)
          have y5 := (hat.below HB.out hbl).2.2.2.2.2.1
          rw [← HKEY.out] at y5
          have hki2 : (k : Int) < (bn : Int) + 1 := by omega
          have BF : Hid (Below w.heap.size w wr) := B8.out.trans (HB.out.mono B8.out.size)
          clear hat
          go_wp2_with fail
          go_quiet (fail)
          go_wp2
          go_ret
          exact ⟨by simp, below_drewN BF.out _⟩

end Go.Proofs.Ytdcdfpjjdobmhab
