/-
  The walk of switchbacklaw.BufferAgain.
-/
import Derived.Test.YtanefofheeecdabBufBegun
import Derived.Test.YtanefofheeecdabBufMath
import Derived.Test.YtanefofheeecdabRefSlot
namespace Go.Proofs.Ytanefofheeecdab
open Go.RowKit

theorem put_first {next : Int} {x y : Sk} (h0 : ¬ next = 0) (hx : x.n = next) (hy : y.n = x.n + 1) : putF next [] y = (next, [y], []) ∧ putF next [y] x = (next + 2, [], [x, y]) := by
  constructor
  · unfold putF
    simp only [if_neg h0]
    rw [if_neg (by omega)]
    simp only [List.any_nil, Bool.false_eq_true, if_false, insF_nil]
    simp only [relF]
    rw [if_neg (by omega), if_pos (by simp)]
  · unfold putF
    simp only [if_neg h0]
    rw [if_neg (by omega), if_neg (by simp; omega), insF_cons, if_pos (by omega)]
    simp only [relF, List.nil_append, List.cons_append]
    rw [if_pos hx, if_pos (by omega)]
    simp; omega

set_option maxHeartbeats 4000000 in
set_option maxRecDepth 100000 in
theorem bufferAgain_any (next : Int) (v : Value) (l : List Sk) (x y : Sk) (w : World) (hv : Sls w v l) (hlen : l.length ≤ 9223372036854775807) :
    Calls Try.prog 6 #[.agg #[.int .i64 next, v], x.val, y.val] w fun e w' => e = .returned (.bool true) ∧ Below w.heap.size w w' := by
  obtain ⟨a, c, hva⟩ := hv.len
  obtain ⟨n, hn⟩ : ∃ n, n = l.length := ⟨_, rfl⟩
  rw [← hn] at hva
  have HV : Hid (Sls w v l) := hv
  have HN : Hid (n = l.length) := hn
  have HL : Hid (l.length ≤ 9223372036854775807) := hlen
  obtain ⟨X, hX⟩ : ∃ X, X = x := ⟨_, rfl⟩
  obtain ⟨Y, hY⟩ : ∃ Y, Y = y := ⟨_, rfl⟩
  have HX : Hid (X.val = .agg #[.int .i64 x.n, .int .i64 x.p.seq, .int .i64 x.p.time, .bool x.p.f, .bool x.p.e, .bool x.p.k, .string x.p.t]) := by rw [hX]; rfl
  have HY : Hid (Y.val = .agg #[.int .i64 y.n, .int .i64 y.p.seq, .int .i64 y.p.time, .bool y.p.f, .bool y.p.e, .bool y.p.k, .string y.p.t]) := by rw [hY]; rfl
  have hXn : Hid (X.n = x.n) := by rw [hX]; rfl
  have hYn : Hid (Y.n = y.n) := by rw [hY]; rfl
  have HXE : Hid (X = x) := hX
  have HYE : Hid (Y = y) := hY
  clear hv hn hlen hX hY
  subst hva
  simp only [Sk.val]
  go_enter Try.func6, Try.ntmps6
  go_wp2_with fail
  refine (bufferBegun_any _).mono ?_
  rintro e w1 ⟨rfl, hb1⟩
  obtain ⟨k0, k1, k2, bw1, hs1⟩ := blocks3 hb1
  have v1 : Hid (Sls w1 (.slice a n c) l) := (((HV.out.alloc _).alloc _).alloc _).below hb1
  have K0 : Hid (Blk w1 w.heap.size #[.int .i64 next, .slice a n c] 31) := k0
  have K1 : Hid (Blk w1 (w.heap.size + 1) #[.int .i64 x.n, .int .i64 x.p.seq, .int .i64 x.p.time, .bool x.p.f, .bool x.p.e, .bool x.p.k, .string x.p.t] 35) := k1
  have K2 : Hid (Blk w1 (w.heap.size + 1 + 1) #[.int .i64 y.n, .int .i64 y.p.seq, .int .i64 y.p.time, .bool y.p.f, .bool y.p.e, .bool y.p.k, .string y.p.t] 35) := k2
  have B1 : Hid (Below w.heap.size w w1) := bw1
  obtain ⟨f0, f1⟩ := k0.two
  obtain ⟨g0, g1, g2, g3, g4, g5, g6⟩ := k1.seven
  clear hb1 k0 k1 k2 bw1
  go_wp2_with fail
  have hput := bufPut_any next (.slice a n c) l X w1 v1.out HL.out
  rw [HX.out] at hput
  refine hput.mono ?_
  rintro e w2 ⟨hv2, ov2, rfl, F2, O2, hb2⟩
  obtain ⟨a2, c2, e2⟩ := F2.1.len
  obtain ⟨E, hE⟩ : ∃ E, E = putE next l X := ⟨_, rfl⟩
  rw [← hE]
  have HE : Hid (E = putE next l X) := hE
  by_cases hE0 : E = 0
  · have hpc : pchk next l = 0 := by
      rw [hE] at hE0
      unfold putE at hE0
      by_cases h : pchk next l = 0
      · exact h
      · rw [if_neg h] at hE0; exact absurd hE0 h
    have hxc : X.chk = 0 := by rw [hE] at hE0; unfold putE at hE0; rw [if_pos hpc] at hE0; exact hE0
    have hRi := (pchk_right next l).1 hpc
    have hr0 : putR next l X = putF next l X := by unfold putR; rw [if_pos (by rw [← hE]; exact hE0)]
    obtain ⟨i1, i2, i3, i4, i5, i6, i7⟩ := put_inv hRi hxc
    have hag := put_again i7 i6
    rw [hr0] at e2 F2 O2 ⊢
    obtain ⟨n1, hn1⟩ : ∃ n1, n1 = (putF next l X).1 := ⟨_, rfl⟩
    obtain ⟨h1, hh1⟩ : ∃ h1, h1 = (putF next l X).2.1 := ⟨_, rfl⟩
    rw [← hn1, ← hh1] at i1 hag
    rw [← hh1] at e2 F2
    rw [← hn1]
    obtain ⟨m, hm⟩ : ∃ m, m = h1.length := ⟨_, rfl⟩
    rw [← hm] at e2
    have HM : Hid (m = h1.length) := hm
    have h4 : Hid (h1.length ≤ 4) := i1.2.1
    obtain ⟨a2', c2', eo⟩ := O2.1.len
    obtain ⟨o, ho⟩ : ∃ o, o = (putF next l X).2.2.length := ⟨_, rfl⟩
    rw [← ho] at eo
    subst e2 eo
    have HR : Hid (Right next l) := hRi
    have HR1 : Hid (Right n1 h1) := i1
    have HXK : Hid (X.chk = 0) := hxc
    have HAG : Hid (putF n1 h1 X = (n1, h1, [])) := hag
    have S2 : Hid (Sls w2 (.slice a2 m c2) h1) := F2.1
    have K02 : Hid (Blk w2 w.heap.size #[.int .i64 next, .slice a n c] 31) := Blk.below K0.out hb2 (Blk.lt K0.out)
    have K12 : Hid (Blk w2 (w.heap.size + 1) #[.int .i64 x.n, .int .i64 x.p.seq, .int .i64 x.p.time, .bool x.p.f, .bool x.p.e, .bool x.p.k, .string x.p.t] 35) := Blk.below K1.out hb2 (Blk.lt K1.out)
    have K22 : Hid (Blk w2 (w.heap.size + 1 + 1) #[.int .i64 y.n, .int .i64 y.p.seq, .int .i64 y.p.time, .bool y.p.f, .bool y.p.e, .bool y.p.k, .string y.p.t] 35) := Blk.below K2.out hb2 (Blk.lt K2.out)
    have v2 : Hid (Sls w2 (.slice a n c) l) := v1.out.below hb2
    have B2 : Hid (Below w.heap.size w w2) := B1.out.trans (hb2.mono B1.out.size)
    have lt2 := Blk.lt K22.out
    have lt2' : w.heap.size + 1 < w2.heap.size := by omega
    obtain ⟨x0, x1, x2, x3, x4, x5, x6⟩ := Blk.seven K12.out
    subst hE0
    clear hE F2 O2 hb2 f0 f1 g0 g1 g2 g3 g4 g5 g6 hput hpc hxc hRi hr0 i1 i2 i3 i4 i5 i6 i7 hag hn1 hh1 hm ho K0 K1 K2 v1 B1
    go_wp2_with fail
    have hput := bufPut_ok n1 (.slice a2 m c2) h1 X (w2.alloc (.cells #[.int .i64 n1, .slice a2 m c2] 31)) (S2.out.alloc _) HR1.out HXK.out
    rw [HAG.out, HX.out] at hput
    refine hput.mono ?_
    rintro e w3 ⟨hv3, ov3, rfl, F3, O3, hb3⟩
    obtain ⟨a3, c3, e3⟩ := F3.1.len
    obtain ⟨a3', c3', e3'⟩ := O3.1.len
    simp only at e3 e3'
    rw [← HM.out] at e3
    subst e3 e3'
    have S3 : Hid (Sls w3 (.slice a3 m c3) h1) := F3.1
    have S23 : Hid (Sls w3 (.slice a2 m c2) h1) := (S2.out.alloc _).below hb3
    have KA3 : Hid (Blk w3 w2.heap.size #[.int .i64 n1, .slice a2 m c2] 31) := Blk.below (Blk.new w2 _ _) hb3 (by simp)
    have K03 : Hid (Blk w3 w.heap.size #[.int .i64 next, .slice a n c] 31) := Blk.below (K02.out.alloc _) hb3 (by simp; omega)
    have K13 : Hid (Blk w3 (w.heap.size + 1) #[.int .i64 x.n, .int .i64 x.p.seq, .int .i64 x.p.time, .bool x.p.f, .bool x.p.e, .bool x.p.k, .string x.p.t] 35) := Blk.below (K12.out.alloc _) hb3 (by simp; omega)
    have K23 : Hid (Blk w3 (w.heap.size + 1 + 1) #[.int .i64 y.n, .int .i64 y.p.seq, .int .i64 y.p.time, .bool y.p.f, .bool y.p.e, .bool y.p.k, .string y.p.t] 35) := Blk.below (K22.out.alloc _) hb3 (by simp; omega)
    have v3 : Hid (Sls w3 (.slice a n c) l) := (v2.out.alloc _).below hb3
    have B3 : Hid (Below w.heap.size w w3) := (B2.out.alloc B2.out.size _).trans (hb3.mono (by have := B2.out.size; simp; omega))
    obtain ⟨p0, p1⟩ := Blk.two KA3.out
    have ltA := Blk.lt KA3.out
    clear F3 O3 hb3 x0 x1 x2 x3 x4 x5 x6 hput K02 K12 K22 v2 B2 S2
    go_wp2_with fail
    have hsame := sameBuffer_any n1 n1 (.slice a2 m c2) (.slice a3 m c3) h1 h1 (w3.alloc (.cells #[.int .i64 n1, .slice a3 m c3] 31)) (S23.out.alloc _) (S3.out.alloc _) (by have := h4.out; omega)
    rw [show (n1 == n1 && sameB h1 h1) = true by simp [(sameB_iff h1 h1).2 rfl]] at hsame
    refine hsame.mono ?_
    rintro e w4 ⟨rfl, hb4⟩
    have K04 : Hid (Blk w4 w.heap.size #[.int .i64 next, .slice a n c] 31) := Blk.below (K03.out.alloc _) hb4 (by have := Blk.lt K03.out; simp; omega)
    have K14 : Hid (Blk w4 (w.heap.size + 1) #[.int .i64 x.n, .int .i64 x.p.seq, .int .i64 x.p.time, .bool x.p.f, .bool x.p.e, .bool x.p.k, .string x.p.t] 35) := Blk.below (K13.out.alloc _) hb4 (by have := Blk.lt K13.out; simp; omega)
    have K24 : Hid (Blk w4 (w.heap.size + 1 + 1) #[.int .i64 y.n, .int .i64 y.p.seq, .int .i64 y.p.time, .bool y.p.f, .bool y.p.e, .bool y.p.k, .string y.p.t] 35) := Blk.below (K23.out.alloc _) hb4 (by have := Blk.lt K23.out; simp; omega)
    have v4 : Hid (Sls w4 (.slice a n c) l) := (v3.out.alloc _).below hb4
    have B4 : Hid (Below w.heap.size w w4) := (B3.out.alloc B3.out.size _).trans (hb4.mono (by have := B3.out.size; simp; omega))
    obtain ⟨f0, f1⟩ := Blk.two K04.out
    obtain ⟨x0, x1, x2, x3, x4, x5, x6⟩ := Blk.seven K14.out
    obtain ⟨y0, y1, y2, y3, y4, y5, y6⟩ := Blk.seven K24.out
    have lt4 := Blk.lt K24.out
    clear hb4 hsame S3 S23 KA3 K03 K13 K23 v3 B3 p0 p1 ltA
    by_cases hl0 : 0 < n
    · have hd : decide (0 < n) = true := decide_eq_true hl0
      have hli : (0 : Int) < (n : Int) := by omega
      go_wp2
      go_ret
      exact ⟨rfl, B4.out⟩
    have hl1 : n = 0 := by omega
    have HL1 : Hid (l = []) := List.eq_nil_of_length_eq_zero (by rw [← HN.out]; exact hl1)
    subst hl1
    by_cases hn0 : next = 0
    · have hq : (next == 0) = true := by simpa using hn0
      clear hn0
      go_wp2
      go_ret
      exact ⟨rfl, B4.out⟩
    have hq : (next == 0) = false := by simpa using hn0
    by_cases hxn : ¬ x.n = next
    · have hq2 : (x.n != next) = true := by simpa using hxn
      clear hn0 hxn
      go_wp2
      go_ret
      exact ⟨rfl, B4.out⟩
    replace hxn : x.n = next := Decidable.not_not.1 hxn
    have hxb := Sk.chk_zero HXK.out
    rw [hXn.out] at hxb
    obtain ⟨hx1, hx2, _, _⟩ := hxb
    have HN0 : Hid (¬ next = 0) := hn0
    have HXN : Hid (x.n = next) := hxn
    have hq2 : (x.n != next) = false := by simpa using hxn
    by_cases hyn : ¬ y.n = x.n + 1
    · have hq3 : (y.n != x.n + 1) = true := by simpa using hyn
      clear hn0 hxn hyn
      go_wp2
      go_ret
      exact ⟨rfl, B4.out⟩
    replace hyn : y.n = x.n + 1 := Decidable.not_not.1 hyn
    have HYN : Hid (y.n = x.n + 1) := hyn
    have hq3 : (y.n != x.n + 1) = false := by simpa using hyn
    clear hn0 hxn hyn
    go_wp2_with fail
    have hck := refSlot_any Y w4
    rw [HY.out] at hck
    refine hck.mono ?_
    rintro e w5 ⟨rfl, hb5⟩
    obtain ⟨yk, hyk⟩ : ∃ yk, yk = Y.chk := ⟨_, rfl⟩
    rw [← hyk]
    have HYK : Hid (yk = Y.chk) := hyk
    have K05 : Hid (Blk w5 w.heap.size #[.int .i64 next, .slice a 0 c] 31) := Blk.below K04.out hb5 (Blk.lt K04.out)
    have K15 : Hid (Blk w5 (w.heap.size + 1) #[.int .i64 x.n, .int .i64 x.p.seq, .int .i64 x.p.time, .bool x.p.f, .bool x.p.e, .bool x.p.k, .string x.p.t] 35) := Blk.below K14.out hb5 (Blk.lt K14.out)
    have K25 : Hid (Blk w5 (w.heap.size + 1 + 1) #[.int .i64 y.n, .int .i64 y.p.seq, .int .i64 y.p.time, .bool y.p.f, .bool y.p.e, .bool y.p.k, .string y.p.t] 35) := Blk.below K24.out hb5 (Blk.lt K24.out)
    have v5 : Hid (Sls w5 (.slice a 0 c) l) := v4.out.below hb5
    have B5 : Hid (Below w.heap.size w w5) := B4.out.trans (hb5.mono B4.out.size)
    clear hyk hb5 hck x0 x1 x2 x3 x4 x5 x6 y0 y1 y2 y3 y4 y5 y6 f0 f1 K04 K14 K24 v4 B4 lt4
    by_cases hy0 : ¬ yk = 0
    · go_wp2
      go_ret
      exact ⟨rfl, B5.out⟩
    replace hy0 : yk = 0 := Decidable.not_not.1 hy0
    subst hy0
    have hpf := put_first (x := X) (y := Y) HN0.out (hXn.out.trans HXN.out) (by rw [hYn.out, hXn.out]; exact HYN.out)
    have hr2 : Right next [Y] := by
      obtain ⟨r1, _, _, _⟩ := HR.out
      refine ⟨.inr ?_, by simp, by simp [← HYK.out], ?_⟩
      · rcases r1 with ⟨h, _⟩ | h
        · exact absurd h HN0.out
        · exact h
      · simp only [upB, Bool.and_true, decide_eq_true_eq]
        have h1 := HYN.out; have h2 := HXN.out; have h3 := hYn.out
        omega
    have HPF : Hid _ := hpf
    have HR2 : Hid (Right next [Y]) := hr2
    obtain ⟨f0, f1⟩ := Blk.two K05.out
    obtain ⟨y0, y1, y2, y3, y4, y5, y6⟩ := Blk.seven K25.out
    clear hpf hr2
    go_wp2_with fail
    have hput := bufPut_ok next (.slice a 0 c) l Y w5 v5.out HR.out HYK.out.symm
    rw [HL1.out, HPF.out.1, HY.out] at hput
    refine hput.mono ?_
    rintro e w6 ⟨hv6, ov6, rfl, F6, O6, hb6⟩
    obtain ⟨a6, c6, e6⟩ := F6.1.len
    obtain ⟨a6', c6', e6'⟩ := O6.1.len
    simp only [List.length_cons, List.length_nil, Nat.zero_add] at e6 e6'
    subst e6 e6'
    have S6 : Hid (Sls w6 (.slice a6 1 c6) [Y]) := F6.1
    have K16 : Hid (Blk w6 (w.heap.size + 1) #[.int .i64 x.n, .int .i64 x.p.seq, .int .i64 x.p.time, .bool x.p.f, .bool x.p.e, .bool x.p.k, .string x.p.t] 35) := Blk.below K15.out hb6 (Blk.lt K15.out)
    have K26 : Hid (Blk w6 (w.heap.size + 1 + 1) #[.int .i64 y.n, .int .i64 y.p.seq, .int .i64 y.p.time, .bool y.p.f, .bool y.p.e, .bool y.p.k, .string y.p.t] 35) := Blk.below K25.out hb6 (Blk.lt K25.out)
    have B6 : Hid (Below w.heap.size w w6) := B5.out.trans (hb6.mono B5.out.size)
    have lt6 := Blk.lt K26.out
    have lt6' : w.heap.size + 1 < w6.heap.size := by omega
    obtain ⟨x0, x1, x2, x3, x4, x5, x6⟩ := Blk.seven K16.out
    clear F6 O6 hb6 hput K05 K15 K25 v5 B5 f0 f1 y0 y1 y2 y3 y4 y5 y6
    go_wp2_with fail
    have hput := bufPut_ok next (.slice a6 1 c6) [Y] X (w6.alloc (.cells #[.int .i64 next, .slice a6 1 c6] 31)) (S6.out.alloc _) HR2.out HXK.out
    rw [HPF.out.2, HX.out] at hput
    refine hput.mono ?_
    rintro e w7 ⟨hv7, ov7, rfl, F7, O7, hb7⟩
    obtain ⟨a7, c7, e7⟩ := F7.1.len
    obtain ⟨a7', c7', e7'⟩ := O7.1.len
    simp only [List.length_cons, List.length_nil, Nat.zero_add] at e7 e7'
    subst e7 e7'
    have S7 : Hid (Sls w7 (.slice a7' 2 c7') [X, Y]) := O7.1
    have K17 : Hid (Blk w7 (w.heap.size + 1) #[.int .i64 x.n, .int .i64 x.p.seq, .int .i64 x.p.time, .bool x.p.f, .bool x.p.e, .bool x.p.k, .string x.p.t] 35) := Blk.below (K16.out.alloc _) hb7 (by simp; omega)
    have K27 : Hid (Blk w7 (w.heap.size + 1 + 1) #[.int .i64 y.n, .int .i64 y.p.seq, .int .i64 y.p.time, .bool y.p.f, .bool y.p.e, .bool y.p.k, .string y.p.t] 35) := Blk.below (K26.out.alloc _) hb7 (by simp; omega)
    have B7 : Hid (Below w.heap.size w w7) := (B6.out.alloc B6.out.size _).trans (hb7.mono (by have := B6.out.size; simp; omega))
    obtain ⟨x0', x1', x2', x3', x4', x5', x6'⟩ := Blk.seven K17.out
    obtain ⟨y0, y1, y2, y3, y4, y5, y6⟩ := Blk.seven K27.out
    have lt7 := Blk.lt K27.out
    have lt7' : w.heap.size + 1 < w7.heap.size := by omega
    clear F7 O7 hb7 hput K16 K26 B6 x0 x1 x2 x3 x4 x5 x6 S6
    go_wp2_with fail
    have hsl : Sls ((w7.alloc (.cells #[.int .i64 (next + 2), .slice a7 0 c7] 31)).alloc (.cells #[.int .i64 x.n, .int .i64 x.p.seq, .int .i64 x.p.time, .bool x.p.f, .bool x.p.e, .bool x.p.k, .string x.p.t, .int .i64 y.n, .int .i64 y.p.seq, .int .i64 y.p.time, .bool y.p.f, .bool y.p.e, .bool y.p.k, .string y.p.t] 35)) (.slice (some ⟨w7.heap.size + 1, 0, none⟩) 2 2) [X, Y] := by
      have := Sl.new (w7.alloc (.cells #[.int .i64 (next + 2), .slice a7 0 c7] 31)) #[.int .i64 x.n, .int .i64 x.p.seq, .int .i64 x.p.time, .bool x.p.f, .bool x.p.e, .bool x.p.k, .string x.p.t, .int .i64 y.n, .int .i64 y.p.seq, .int .i64 y.p.time, .bool y.p.f, .bool y.p.e, .bool y.p.k, .string y.p.t] 35 2 7 2 rfl
      simp only [World.size_alloc] at this
      have e : skCells [X, Y] = #[.int .i64 x.n, .int .i64 x.p.seq, .int .i64 x.p.time, .bool x.p.f, .bool x.p.e, .bool x.p.k, .string x.p.t, .int .i64 y.n, .int .i64 y.p.seq, .int .i64 y.p.time, .bool y.p.f, .bool y.p.e, .bool y.p.k, .string y.p.t].toList := by
        rw [HXE.out, HYE.out]
        rfl
      show Sl _ _ _ _ _
      rw [e]
      exact this
    have hsame := sameSlots_any (.slice a7' 2 c7') _ [X, Y] [X, Y] _ ((S7.out.alloc _).alloc _) hsl (by simp)
    rw [(sameB_iff [X, Y] [X, Y]).2 rfl] at hsame
    refine hsame.mono ?_
    rintro e w8 ⟨rfl, hb8⟩
    have KF := Blk.below ((Blk.new w7 #[.int .i64 (next + 2), .slice a7 0 c7] 31).alloc (.cells #[.int .i64 x.n, .int .i64 x.p.seq, .int .i64 x.p.time, .bool x.p.f, .bool x.p.e, .bool x.p.k, .string x.p.t, .int .i64 y.n, .int .i64 y.p.seq, .int .i64 y.p.time, .bool y.p.f, .bool y.p.e, .bool y.p.k, .string y.p.t] 35)) hb8 (by simp; omega)
    have K28 := Blk.below ((K27.out.alloc (.cells #[.int .i64 (next + 2), .slice a7 0 c7] 31)).alloc (.cells #[.int .i64 x.n, .int .i64 x.p.seq, .int .i64 x.p.time, .bool x.p.f, .bool x.p.e, .bool x.p.k, .string x.p.t, .int .i64 y.n, .int .i64 y.p.seq, .int .i64 y.p.time, .bool y.p.f, .bool y.p.e, .bool y.p.k, .string y.p.t] 35)) hb8 (by simp; omega)
    have B8 : Hid (Below w.heap.size w w8) := ((B7.out.alloc B7.out.size _).alloc (by have := B7.out.size; simp; omega) _).trans (hb8.mono (by have := B7.out.size; simp; omega))
    obtain ⟨z0, z1⟩ := Blk.two KF
    have u0 := (Blk.seven K28).1
    have hfin : (next + 2 == y.n + 1) = true := by have h1 := HYN.out; have h2 := HXN.out; simp; omega
    have hyb1 : y.n ≤ 1000000001 := by have h1 := HYN.out; omega
    have hyb2 : 0 ≤ y.n := by have h1 := HYN.out; omega
    clear hb8 hsame hsl KF K28 x0' x1' x2' x3' x4' x5' x6' y0 y1 y2 y3 y4 y5 y6
    go_wp2
    go_ret
    exact ⟨rfl, B8.out⟩
  · have hr0 : putR next l X = (0, [], []) := by unfold putR; rw [if_neg (by rw [← hE]; exact hE0)]
    have hb3 : Hid (Below w.heap.size w w2) := B1.out.trans (hb2.mono B1.out.size)
    rw [hr0] at e2 ⊢
    subst e2
    clear hE F2 O2 hb2 f0 f1 g0 g1 g2 g3 g4 g5 g6 hput
    go_wp2
    go_ret
    exact ⟨rfl, hb3.out.alloc hb3.out.size _⟩

end Go.Proofs.Ytanefofheeecdab
