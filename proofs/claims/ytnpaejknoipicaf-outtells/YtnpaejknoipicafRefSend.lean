/-
  Contract: the document's SendOf, of what is right.
-/
import Derived.Test.YtnpaejknoipicafOutMath
import Derived.Deep.DeepCutAuto
namespace Go.Proofs.Ytnpaejknoipicaf
open Go.RowKit

theorem Blk.sixp {w : World} {b : Nat} {x0 x1 x2 x3 x4 x5 : Value} {t : TypeId} (h : Blk w b #[x0, x1, x2, x3, x4, x5] t) : w.cell? ⟨b, 0, none⟩ = some x0 ∧ w.cell? ⟨b, 1, none⟩ = some x1 ∧ w.cell? ⟨b, 2, none⟩ = some x2 ∧ w.cell? ⟨b, 3, none⟩ = some x3 ∧ w.cell? ⟨b, 4, none⟩ = some x4 ∧ w.cell? ⟨b, 5, none⟩ = some x5 ∧ True := ⟨h.cell rfl, h.cell rfl, h.cell rfl, h.cell rfl, h.cell rfl, h.cell rfl, trivial⟩

set_option maxHeartbeats 16000000 in
set_option maxRecDepth 100000 in
theorem refSend_any (l t s : Int) (f : Fr) (pv : Value) (turn : Bool) (w : World) (hp : StrsIn (fun _ => True) w pv f.parts) (ho : outE l t s = 0) (hf : f.chk = 0) :
    Calls Try.prog 10 #[.agg #[.int .i64 l, .int .i64 t, .int .i64 s], .agg #[.int .i64 f.time, .bool f.key, pv], .bool turn] w fun e w' => ∃ va vc, e = .returned (.tuple #[.agg #[.int .i64 (sdO l t s f turn).1, .int .i64 (sdO l t s f turn).2.1, .int .i64 (sdO l t s f turn).2.2], .slice va (sdP l t s f turn).length vc, .int .i64 (sdE l t s f turn)]) ∧ w'.ownsRow w.heap.size 38 6 (.slice va (sdP l t s f turn).length vc) (sdP l t s f turn).length (pkCells (sdP l t s f turn)) ∧ Below w.heap.size w w' := by
  obtain ⟨pa, pc, ep⟩ := hp.1.len
  obtain ⟨ft, hft⟩ : ∃ x, x = f.time := ⟨_, rfl⟩
  obtain ⟨fk, hfk⟩ : ∃ x, x = f.key := ⟨_, rfl⟩
  obtain ⟨ps, hps⟩ : ∃ x, x = f.parts := ⟨_, rfl⟩
  obtain ⟨n, hn⟩ : ∃ x, x = ps.length := ⟨_, rfl⟩
  obtain ⟨S, hS⟩ : ∃ x, x = sdS l t s f.time turn := ⟨_, rfl⟩
  obtain ⟨E, hE⟩ : ∃ E, E = sdE l t s f turn := ⟨_, rfl⟩
  obtain ⟨O, hO⟩ : ∃ x, x = sdO l t s f turn := ⟨_, rfl⟩
  obtain ⟨P, hP⟩ : ∃ x, x = sdP l t s f turn := ⟨_, rfl⟩
  obtain ⟨C, hC⟩ : ∃ C : Bool, C = decide (turn = true ∨ l = 0) := ⟨_, rfl⟩
  obtain ⟨l0, l1, t0, t1, s0, s1⟩ := outE_zero.1 ho
  obtain ⟨c1, c2, c3, c4, _⟩ := chkF_zero hf
  rw [← hps] at c3 c4 hp ep
  rw [← hft] at c1 c2
  rw [← hn] at c3 c4 ep
  have HEE : Hid (E = roomE l t S ft n) := by
    show _ = _
    rw [hE]; unfold sdE
    rw [if_pos ho, if_pos hf, ← hS, ← hft, ← hps, ← hn]
  have HBAD : Hid (¬ E = 0 → O = (0, 0, 0) ∧ P = []) := fun h => by
    rw [hE] at h
    rw [hO, hP]; exact sd_bad h
  have HGOOD : Hid (E = 0 → O = (l + n, ft + S, S) ∧ P = pksOf l (ft + S) fk ps) := fun h => by
    rw [hE] at h
    obtain ⟨e1, e2, _⟩ := sd_zero h
    rw [hO, hP, e1, e2, ← hS, ← hft, ← hfk, ← hps, ← hn]; exact ⟨rfl, rfl⟩
  have HSC : Hid ((C = true → S = t + 10 - ft) ∧ (C = false → S = s)) := by
    rw [hC, hS, hft]; unfold sdS
    exact ⟨fun h => if_pos (of_decide_eq_true h), fun h => if_neg (of_decide_eq_false h)⟩
  have HCC : Hid (C = decide (turn = true ∨ l = 0)) := hC
  have hSb : -3000000 ≤ S ∧ S ≤ 3000000 := by
    cases hc : C
    · have := HSC.out.2 hc; omega
    · have := HSC.out.1 hc; omega
  have HN : Hid (n = ps.length) := hn
  rw [← hE, ← hO, ← hP, ← hft, ← hfk]
  obtain ⟨W1, hW1⟩ : ∃ W1, W1 = (((w.alloc (.cells #[.int .i64 l, .int .i64 t, .int .i64 s] 23)).alloc (.cells #[.int .i64 ft, .bool fk, pv] 26)).alloc (.cells #[.int .i64 0, .int .i64 0, .int .i64 0] 23)).alloc (.cells #[.int .i64 l, .int .i64 t, .int .i64 s] 23) := ⟨_, rfl⟩
  have hB1 : Below w.heap.size w W1 := by rw [hW1]; exact ((((Below.refl _ _).alloc (Nat.le_refl _) _).alloc (by simp) _).alloc (by simp; omega) _).alloc (by simp; omega) _
  have hk0 : Blk W1 w.heap.size #[.int .i64 l, .int .i64 t, .int .i64 s] 23 := by rw [hW1]; exact (((Blk.new _ _ _).alloc _).alloc _).alloc _
  have hk1 : Blk W1 (w.heap.size + 1) #[.int .i64 ft, .bool fk, pv] 26 := by
    have := Blk.new (w.alloc (.cells #[.int .i64 l, .int .i64 t, .int .i64 s] 23)) #[.int .i64 ft, .bool fk, pv] 26
    simp only [World.size_alloc] at this
    rw [hW1]; exact (this.alloc _).alloc _
  have hk2 : Blk W1 (w.heap.size + 1 + 1) #[.int .i64 0, .int .i64 0, .int .i64 0] 23 := by
    have := Blk.new ((w.alloc (.cells #[.int .i64 l, .int .i64 t, .int .i64 s] 23)).alloc (.cells #[.int .i64 ft, .bool fk, pv] 26)) #[.int .i64 0, .int .i64 0, .int .i64 0] 23
    simp only [World.size_alloc] at this
    rw [hW1]; exact this.alloc _
  have hk3 : Blk W1 (w.heap.size + 1 + 1 + 1) #[.int .i64 l, .int .i64 t, .int .i64 s] 23 := by
    have := Blk.newE hW1
    simp only [World.size_alloc] at this
    exact this
  obtain ⟨R, hR⟩ : ∃ x, x = w.heap.size + 1 + 1 := ⟨_, rfl⟩
  obtain ⟨X, hX⟩ : ∃ x, x = w.heap.size + 1 + 1 + 1 := ⟨_, rfl⟩
  rw [← hR] at hk2
  rw [← hX] at hk3
  have HRX : Hid (R = w.heap.size + 1 + 1 ∧ X = w.heap.size + 1 + 1 + 1) := ⟨hR, hX⟩
  have HS1 : Hid (StayK [X, R] W1 (fun U => Blk U w.heap.size #[.int .i64 l, .int .i64 t, .int .i64 s] 23 ∧ Blk U (w.heap.size + 1) #[.int .i64 ft, .bool fk, pv] 26 ∧ StrsIn (fun g => g < w.heap.size) U pv ps ∧ Below w.heap.size w U)) :=
    (hk0.stayK (by simp; omega)).and ((hk1.stayK (by simp; omega)).and (((hp.mono (S' := fun g => g < w.heap.size) fun g h _ => h).below hB1 |>.stayK (fun g hg => by simp; omega)).and (below_stayK hB1 hB1.size (fun k hk => by simp at hk; omega))))
  have HX1 : Hid (Blk W1 X #[.int .i64 l, .int .i64 t, .int .i64 s] 23) := hk3
  have HR1 : Hid (Blk W1 R #[.int .i64 0, .int .i64 0, .int .i64 0] 23) := hk2
  obtain ⟨k0, k1, k2⟩ := hk0.three
  clear hk0 hk1 hk2 hk3 hB1 hp hS hE hO hP hC hft hfk hps hn ho hf
  subst ep
  go_enter Try.func10, Try.ntmps10
  go_upto_region 2 with fail
  rw [← hW1, ← hX, ← hR]
  clear hW1 hX hR
  go_cut [19] (fun s19 wc => s19 = .bool C ∧ wc = W1)
  case first =>
    cases turn
    · by_cases h : l = 0
      · have hc : C = true := by rw [HCC.out]; exact decide_eq_true (.inr h)
        have hl : (l == 0) = true := by simpa using h
        clear h
        go_wp2_with fail
        go_meet
        case rel => exact ⟨by rw [hc], rfl⟩
      · have hc : C = false := by rw [HCC.out]; exact decide_eq_false (by simpa using h)
        have hl : (l == 0) = false := by simpa using h
        clear h
        go_wp2_with fail
        go_meet
        case rel => exact ⟨by rw [hc], rfl⟩
    · have hc : C = true := by rw [HCC.out]; exact decide_eq_true (.inl rfl)
      go_wp2_with fail
      go_meet
      case rel => exact ⟨by rw [hc], rfl⟩
  case rest =>
    obtain ⟨rfl, rfl⟩ := hcut
    obtain ⟨WA, hWA⟩ : ∃ x, x = wc := ⟨_, rfl⟩
    subst hWA
    clear HCC
    go_upto_if 19 with fail
    go_cut [] (fun wd => Hid (Blk wd X #[.int .i64 l, .int .i64 t, .int .i64 S] 23) ∧ Hid (Kept [X, R] WA wd) ∧ Hid (Blk wd R #[.int .i64 0, .int .i64 0, .int .i64 0] 23))
    case first =>
      obtain ⟨x0, x1, x2⟩ := HX1.out.three
      have fx := HX1.out.free 2
      obtain ⟨i0, i1, i2⟩ := HS1.out.now.2.1.three
      cases C
      · have hS := HSC.out.2 rfl
        go_wp2_with fail
        go_meet
        case rel => exact ⟨by rw [hS]; exact HX1.out, Kept.refl _ _, HR1.out⟩
      · have hS := HSC.out.1 rfl
        have HSE : Hid (S = t + 10 - ft) := hS
        clear hS
        go_wp2_with fail
        go_meet
        case rel =>
          rw [HSE.out]
          refine ⟨by simpa [Hid] using HX1.out.set 2 (.int .i64 (t + 10 - ft)), (Kept.refl _ _).setCell (p := ⟨X, 2, none⟩) (by simp) _, HR1.out.other (a := ⟨X, 2, none⟩) (by have := HRX.out; show R ≠ X; omega) _⟩
    case rest =>
      obtain ⟨HX2, HK2, HR2⟩ := hcut
      have HT2 := StayK.goK HS1 HK2.out
      clear HS1 HX1 HR1 HK2 k0 k1 k2
      obtain ⟨W3, hW3⟩ : ∃ V, V = (wc.setCell ⟨X, 1, none⟩ (.int .i64 (ft + S))).setCell ⟨X, 0, none⟩ (.int .i64 (l + n)) := ⟨_, rfl⟩
      have HX3 : Hid (Blk W3 X #[.int .i64 (l + n), .int .i64 (ft + S), .int .i64 S] 23) := by
        have := (HX2.out.set 1 (.int .i64 (ft + S))).set 0 (.int .i64 (l + n))
        rw [hW3]; simpa [Hid] using this
      have HT4 := StayK.goK HT2 (by rw [hW3]; exact ((Kept.refl [X, R] wc).setCell (p := ⟨X, 1, none⟩) (by simp) _).setCell (p := ⟨X, 0, none⟩) (by simp) _ : Kept [X, R] wc W3)
      have HR4 : Hid (Blk W3 R #[.int .i64 0, .int .i64 0, .int .i64 0] 23) := by
        rw [hW3]; exact (HR2.out.other (a := ⟨X, 1, none⟩) (by have := HRX.out; show R ≠ X; omega) _).other (a := ⟨X, 0, none⟩) (by have := HRX.out; show R ≠ X; omega) _
      obtain ⟨x0, x1, x2⟩ := HX2.out.three
      have fx := HX2.out.free
      obtain ⟨i0, i1, i2⟩ := HT2.out.now.2.1.three
      obtain ⟨k0, k1, k2⟩ := HT2.out.now.1.three
      have lX := HX2.out.lt
      have lk := HT2.out.now.1.lt
      have li := HT2.out.now.2.1.lt
      have hne1 : ¬ w.heap.size = X := by have := HRX.out; omega
      have hne2 : ¬ w.heap.size + 1 = X := by have := HRX.out; omega
      go_upto_region 6 with fail
      rw [← hW3]
      clear hW3 x0 x1 x2 fx i0 i1 i2 k0 k1 k2 lX lk li HX2 HT2 HR2
      obtain ⟨x0, x1, x2⟩ := HX3.out.three
      obtain ⟨k0, k1, k2⟩ := HT4.out.now.1.three
      by_cases h4 : ft + S < t
      · have hE4 : E = 4 := by rw [HEE.out]; unfold roomE; rw [if_pos h4]
        obtain ⟨hO0, hP0⟩ := HBAD.out (by rw [hE4]; decide)
        have HOP : Hid (O = (0, 0, 0) ∧ P = [] ∧ E = 4) := ⟨hO0, hP0, hE4⟩
        clear hE4 hO0 hP0 HBAD HGOOD HEE HSC
        obtain ⟨V, hV⟩ : ∃ V, V = ((W3.setCell ⟨R, 0, none⟩ (.int .i64 0)).setCell ⟨R, 1, none⟩ (.int .i64 0)).setCell ⟨R, 2, none⟩ (.int .i64 0) := ⟨_, rfl⟩
        have hVB : Blk V R #[.int .i64 0, .int .i64 0, .int .i64 0] 23 := by rw [hV]; exact HR4.out.put3 _ _ _
        have hVW : Below w.heap.size w V := (StayK.goK HT4 (by rw [hV]; exact (Kept.refl [X, R] _).put3 (b := R) (by simp) _ _ _)).out.now.2.2.2
        obtain ⟨z0, z1, z2⟩ := HR4.out.three
        have f0 := HR4.out.free 0
        have f1 := HR4.out.free 1
        have f2 := HR4.out.free 2
        go_wp2_with fail
        rw [← hV]
        obtain ⟨r0, r1, r2⟩ := hVB.three
        rw [HOP.out.1, HOP.out.2.1, HOP.out.2.2]
        exact bodyPost_ret (v := .tuple #[.agg #[.int .i64 0, .int .i64 0, .int .i64 0], .slice none 0 0, .int .i64 4]) (by simp [results, Try.results10, go_sem, r0, r1, r2]) rfl ⟨none, 0, rfl, World.ownsRow_nil _ _ _ _, hVW⟩
      by_cases h5 : 1000000 < ft + S
      · have hE2 : E = 2 := by rw [HEE.out]; unfold roomE; rw [if_neg h4, if_pos h5]
        obtain ⟨hO0, hP0⟩ := HBAD.out (by rw [hE2]; decide)
        have HOP : Hid (O = (0, 0, 0) ∧ P = [] ∧ E = 2) := ⟨hO0, hP0, hE2⟩
        clear hE2 hO0 hP0 HBAD HGOOD HEE HSC
        obtain ⟨V, hV⟩ : ∃ V, V = ((W3.setCell ⟨R, 0, none⟩ (.int .i64 0)).setCell ⟨R, 1, none⟩ (.int .i64 0)).setCell ⟨R, 2, none⟩ (.int .i64 0) := ⟨_, rfl⟩
        have hVB : Blk V R #[.int .i64 0, .int .i64 0, .int .i64 0] 23 := by rw [hV]; exact HR4.out.put3 _ _ _
        have hVW : Below w.heap.size w V := (StayK.goK HT4 (by rw [hV]; exact (Kept.refl [X, R] _).put3 (b := R) (by simp) _ _ _)).out.now.2.2.2
        obtain ⟨z0, z1, z2⟩ := HR4.out.three
        have f0 := HR4.out.free 0
        have f1 := HR4.out.free 1
        have f2 := HR4.out.free 2
        go_wp2_with fail
        rw [← hV]
        obtain ⟨r0, r1, r2⟩ := hVB.three
        rw [HOP.out.1, HOP.out.2.1, HOP.out.2.2]
        exact bodyPost_ret (v := .tuple #[.agg #[.int .i64 0, .int .i64 0, .int .i64 0], .slice none 0 0, .int .i64 2]) (by simp [results, Try.results10, go_sem, r0, r1, r2]) rfl ⟨none, 0, rfl, World.ownsRow_nil _ _ _ _, hVW⟩
      by_cases h6 : 1000000000 < l + (n : Int)
      · have hE2 : E = 2 := by rw [HEE.out]; unfold roomE; rw [if_neg h4, if_neg h5, if_pos h6]
        obtain ⟨hO0, hP0⟩ := HBAD.out (by rw [hE2]; decide)
        have HOP : Hid (O = (0, 0, 0) ∧ P = [] ∧ E = 2) := ⟨hO0, hP0, hE2⟩
        clear hE2 hO0 hP0 HBAD HGOOD HEE HSC
        obtain ⟨V, hV⟩ : ∃ V, V = ((W3.setCell ⟨R, 0, none⟩ (.int .i64 0)).setCell ⟨R, 1, none⟩ (.int .i64 0)).setCell ⟨R, 2, none⟩ (.int .i64 0) := ⟨_, rfl⟩
        have hVB : Blk V R #[.int .i64 0, .int .i64 0, .int .i64 0] 23 := by rw [hV]; exact HR4.out.put3 _ _ _
        have hVW : Below w.heap.size w V := (StayK.goK HT4 (by rw [hV]; exact (Kept.refl [X, R] _).put3 (b := R) (by simp) _ _ _)).out.now.2.2.2
        obtain ⟨z0, z1, z2⟩ := HR4.out.three
        have f0 := HR4.out.free 0
        have f1 := HR4.out.free 1
        have f2 := HR4.out.free 2
        go_wp2_with fail
        rw [← hV]
        obtain ⟨r0, r1, r2⟩ := hVB.three
        rw [HOP.out.1, HOP.out.2.1, HOP.out.2.2]
        exact bodyPost_ret (v := .tuple #[.agg #[.int .i64 0, .int .i64 0, .int .i64 0], .slice none 0 0, .int .i64 2]) (by simp [results, Try.results10, go_sem, r0, r1, r2]) rfl ⟨none, 0, rfl, World.ownsRow_nil _ _ _ _, hVW⟩
      have hE0 : E = 0 := by rw [HEE.out]; unfold roomE; rw [if_neg h4, if_neg h5, if_neg h6]
      obtain ⟨hO1, hP1⟩ := HGOOD.out hE0
      have HOP : Hid (O = (l + n, ft + S, S) ∧ P = pksOf l (ft + S) fk ps ∧ E = 0) := ⟨hO1, hP1, hE0⟩
      clear hO1 hP1 hE0 HBAD HGOOD HEE HSC
      go_upto_region 10 with fail
      clear x0 x1 x2 k0 k1 k2
      obtain ⟨T, hT⟩ : ∃ x, x = ft + S := ⟨_, rfl⟩
      rw [← hT] at HX3 HOP
      have hTb : 0 ≤ T ∧ T ≤ 1000000 := by omega
      clear hT h4 h5 h6
      go_wp2_with fail
      go_loopw [10, 11] (fun v i wr => ∃ k : Nat, k ≤ n ∧ i = .int .i64 k ∧ Hid (wr.ownsRow W3.heap.size 38 6 v k (pkCells (pksK l T fk ps k))) ∧ Hid (Below W3.heap.size W3 wr))
        (fun _ i _ => n - (intOf i).toNat)
      case atStart => exact ⟨0, Nat.zero_le _, rfl, World.ownsRow_nil _ _ _ _, Below.refl _ _⟩
      case round =>
        obtain ⟨k, hk, rfl, HO', HB'⟩ := hrel
        have HTr := StayK.go HT4 HB'.out
        have HXr : Hid (Blk wr X #[.int .i64 (l + n), .int .i64 T, .int .i64 S] 23) := HX3.out.below HB'.out HX3.out.lt
        obtain ⟨k0, k1, k2⟩ := HTr.out.now.1.three
        obtain ⟨i0, i1, i2⟩ := HTr.out.now.2.1.three
        obtain ⟨x0, x1, x2⟩ := HXr.out.three
        by_cases hlt : k < n
        · have hlti : (k : Int) < (n : Int) := by omega
          obtain ⟨po, pcc, ep, hpc⟩ := HTr.out.now.2.2.1.1.parts
          rw [← HN.out] at ep
          injection ep with ep1 ep2 ep3
          clear ep2
          subst ep1 ep3
          obtain ⟨b, off, e1, hb, hcx⟩ := hpc k (by rw [← HN.out]; exact hlt)
          obtain ⟨x, hx⟩ : ∃ x, x = ps[k]?.getD ByteArray.empty := ⟨_, rfl⟩
          rw [← hx] at hcx
          obtain ⟨sq, hsq⟩ : ∃ y, y = (l + 1 + (k : Int)) % 65536 := ⟨_, rfl⟩
          have HXX : Hid (x = ps[k]?.getD ByteArray.empty ∧ sq = (l + 1 + (k : Int)) % 65536) := ⟨hx, hsq⟩
          have hw1 : IntKind.i64.wrap (l + 1) = l + 1 := by rw [IntKind.wrap_i64]; omega
          have hw2 : IntKind.i64.wrap (l + 1 + (k : Int)) = l + 1 + (k : Int) := by rw [IntKind.wrap_i64]; omega
          have hrem : (l + 1 + (k : Int)).tmod 65536 = sq := by rw [hsq, Int.tmod_eq_emod_of_nonneg (by omega)]
          have hw3 : IntKind.i64.wrap sq = sq := by rw [IntKind.wrap_i64]; omega
          have lk := HTr.out.now.1.lt
          have li := HTr.out.now.2.1.lt
          have lX := HXr.out.lt
          subst e1
          clear hpc hx hsq
          go_wp2_with fail
          refine region_chainG (by kernel_rfl) (by kernel_rfl) [.quiet (.pointer (some ⟨w.heap.size, 0, none⟩)) 2, .quiet (.int .i64 l) 2, .quiet (.int .i64 (l + 1)) 2, .quiet (.int .i64 k) 2, .quiet (.int .i64 (l + 1 + k)) 2, .quiet (.int .i64 sq) 2, .quiet (.pointer (some ⟨X, 1, none⟩)) 2, .quiet (.int .i64 T) 2, .quiet (.pointer (some ⟨w.heap.size + 1, 2, none⟩)) 2, .quiet (.slice (some ⟨b, off, none⟩) n pc) 2, .quiet (.int .i64 k) 2, .quiet (.pointer (some ⟨b, off + k, none⟩)) 2, .quiet (.string x) 2, .quiet (.agg #[.int .i64 sq, .int .i64 T, .bool false, .bool false, .bool false, .string x]) 2, .step 0, .step 1] [14, 15] (by kernel_rfl)
            (fun s r w' => match s with
              | 0 => Below wr.heap.size wr w'
              | 1 => ∃ p, wr.heap.size ≤ p ∧ Below wr.heap.size wr w' ∧ Blk w' p #[.int .i64 0, .int .i64 0, .bool false, .bool false, .bool false, .string ⟨#[]⟩] 38 ∧ r 0 = .pointer (some ⟨p, 0, none⟩)
              | _ => ∃ p, wr.heap.size ≤ p ∧ Below wr.heap.size wr w' ∧ Blk w' p #[.int .i64 sq, .int .i64 T, .bool false, .bool false, .bool false, .string x] 38 ∧ r 0 = .pointer (some ⟨p, 0, none⟩)
              ) ((Below.refl _ wr).drew) ?step ?fin
          case step =>
            intro i o ho a' w' s r hI hfree hvals
            have hB : Below wr.heap.size wr w' := by
              match s, hI with
              | 0, hI => exact hI
              | 1, ⟨_, _, hI, _⟩ => exact hI
              | n + 2, ⟨_, _, hI, _⟩ => exact hI
            have y0 := (hB.cell (p := ⟨w.heap.size, 0, none⟩) lk).trans k0
            have y1 := (hB.cell (p := ⟨X, 1, none⟩) lX).trans x1
            have y2 := (hB.cell (p := ⟨w.heap.size + 1, 2, none⟩) li).trans i2
            have y3 := (hB.cell (p := ⟨b, off + k, none⟩) hb).trans hcx
            match i, ho with
            | 0, ho =>
              simp at ho; subst ho
              have e3 : a'.eval (.tmp 3) = .pointer (some ⟨w.heap.size, 0, none⟩) := (hfree 3 (by kernel_rfl)).trans rfl
              show s ≤ 2 → _
              intro hs
              refine .inl ⟨rfl, ?_⟩
              generalize a'.eval = ρ at *
              simp [execOp, go_sem, e3]
            | 1, ho =>
              simp at ho; subst ho
              have e62 : a'.eval (.tmp 62) = .pointer (some ⟨w.heap.size, 0, none⟩) := hvals 0 _ _ (by kernel_rfl) rfl rfl
              show s ≤ 2 → _
              intro hs
              refine .inl ⟨rfl, ?_⟩
              generalize a'.eval = ρ at *
              simp [execOp, go_sem, e62, y0]
            | 2, ho =>
              simp at ho; subst ho
              have e63 : a'.eval (.tmp 63) = .int .i64 l := hvals 1 _ _ (by kernel_rfl) rfl rfl
              have ec0 : a'.eval (.const (.int .i64 1)) = .int .i64 1 := rfl
              show s ≤ 2 → _
              intro hs
              refine .inl ⟨rfl, ?_⟩
              generalize a'.eval = ρ at *
              simp [execOp, go_sem, e63, ec0, hw1]
            | 3, ho =>
              simp at ho; subst ho
              have e11 : a'.eval (.tmp 11) = .int .i64 k := (hfree 11 (by kernel_rfl)).trans rfl
              show s ≤ 2 → _
              intro hs
              refine .inl ⟨rfl, ?_⟩
              generalize a'.eval = ρ at *
              simp [execOp, go_sem, e11]
            | 4, ho =>
              simp at ho; subst ho
              have e64 : a'.eval (.tmp 64) = .int .i64 (l + 1) := hvals 2 _ _ (by kernel_rfl) rfl rfl
              have e65 : a'.eval (.tmp 65) = .int .i64 k := hvals 3 _ _ (by kernel_rfl) rfl rfl
              show s ≤ 2 → _
              intro hs
              refine .inl ⟨rfl, ?_⟩
              generalize a'.eval = ρ at *
              simp [execOp, go_sem, e64, e65, hw2]
            | 5, ho =>
              simp at ho; subst ho
              have e66 : a'.eval (.tmp 66) = .int .i64 (l + 1 + k) := hvals 4 _ _ (by kernel_rfl) rfl rfl
              have ec0 : a'.eval (.const (.int .i64 65536)) = .int .i64 65536 := rfl
              show s ≤ 2 → _
              intro hs
              refine .inl ⟨rfl, ?_⟩
              generalize a'.eval = ρ at *
              simp [execOp, go_sem, e66, ec0, hrem]
            | 6, ho =>
              simp at ho; subst ho
              have e9 : a'.eval (.tmp 9) = .pointer (some ⟨X, 0, none⟩) := (hfree 9 (by kernel_rfl)).trans rfl
              show s ≤ 2 → _
              intro hs
              refine .inl ⟨rfl, ?_⟩
              generalize a'.eval = ρ at *
              simp [execOp, go_sem, e9]
            | 7, ho =>
              simp at ho; subst ho
              have e68 : a'.eval (.tmp 68) = .pointer (some ⟨X, 1, none⟩) := hvals 6 _ _ (by kernel_rfl) rfl rfl
              show s ≤ 2 → _
              intro hs
              refine .inl ⟨rfl, ?_⟩
              generalize a'.eval = ρ at *
              simp [execOp, go_sem, e68, y1]
            | 8, ho =>
              simp at ho; subst ho
              have e4 : a'.eval (.tmp 4) = .pointer (some ⟨w.heap.size + 1, 0, none⟩) := (hfree 4 (by kernel_rfl)).trans rfl
              show s ≤ 2 → _
              intro hs
              refine .inl ⟨rfl, ?_⟩
              generalize a'.eval = ρ at *
              simp [execOp, go_sem, e4]
            | 9, ho =>
              simp at ho; subst ho
              have e70 : a'.eval (.tmp 70) = .pointer (some ⟨w.heap.size + 1, 2, none⟩) := hvals 8 _ _ (by kernel_rfl) rfl rfl
              show s ≤ 2 → _
              intro hs
              refine .inl ⟨rfl, ?_⟩
              generalize a'.eval = ρ at *
              simp [execOp, go_sem, e70, y2]
            | 10, ho =>
              simp at ho; subst ho
              have e11 : a'.eval (.tmp 11) = .int .i64 k := (hfree 11 (by kernel_rfl)).trans rfl
              show s ≤ 2 → _
              intro hs
              refine .inl ⟨rfl, ?_⟩
              generalize a'.eval = ρ at *
              simp [execOp, go_sem, e11]
            | 11, ho =>
              simp at ho; subst ho
              have e71 : a'.eval (.tmp 71) = .slice (some ⟨b, off, none⟩) n pc := hvals 9 _ _ (by kernel_rfl) rfl rfl
              have e72 : a'.eval (.tmp 72) = .int .i64 k := hvals 10 _ _ (by kernel_rfl) rfl rfl
              show s ≤ 2 → _
              intro hs
              refine .inl ⟨rfl, ?_⟩
              generalize a'.eval = ρ at *
              simp [execOp, go_sem, e71, e72, hlti]
            | 12, ho =>
              simp at ho; subst ho
              have e73 : a'.eval (.tmp 73) = .pointer (some ⟨b, off + k, none⟩) := hvals 11 _ _ (by kernel_rfl) rfl rfl
              show s ≤ 2 → _
              intro hs
              refine .inl ⟨rfl, ?_⟩
              generalize a'.eval = ρ at *
              simp [execOp, go_sem, e73, y3]
            | 13, ho =>
              simp at ho; subst ho
              have e67 : a'.eval (.tmp 67) = .int .i64 sq := hvals 5 _ _ (by kernel_rfl) rfl rfl
              have e69 : a'.eval (.tmp 69) = .int .i64 T := hvals 7 _ _ (by kernel_rfl) rfl rfl
              have e74 : a'.eval (.tmp 74) = .string x := hvals 12 _ _ (by kernel_rfl) rfl rfl
              show s ≤ 2 → _
              intro hs
              refine .inl ⟨rfl, ?_⟩
              generalize a'.eval = ρ at *
              simp [execOp, go_sem, e67, e69, e74]
            | 14, ho =>
              simp at ho; subst ho
              show s = 0 → _ ∧ Oper.wp _ _ _ _ _ _
              intro hs
              subst hs
              refine ⟨rfl, ?_⟩
              have hI0 : Below wr.heap.size wr w' := hI
              refine oper_wp_ok (v := .pointer (some ⟨w'.heap.size, 0, none⟩)) (w' := w'.alloc (.cells #[.int .i64 0, .int .i64 0, .bool false, .bool false, .bool false, .string ⟨#[]⟩] 38)) ?_ ⟨_, rfl, w'.heap.size, hI0.size, hI0.alloc hI0.size _, Blk.new _ _ _, updR_at _ _ _⟩
              generalize a'.eval = ρ at *
              simp [execOp, go_sem]
            | 15, ho =>
              simp at ho; subst ho
              have e12 : a'.eval (.tmp 12) = r 0 := hvals 14 _ _ (by kernel_rfl) rfl rfl
              have e75 : a'.eval (.tmp 75) = .agg #[.int .i64 sq, .int .i64 T, .bool false, .bool false, .bool false, .string x] := hvals 13 _ _ (by kernel_rfl) rfl rfl
              show s = 1 → _ ∧ Oper.wp _ _ _ _ _ _
              intro hs
              subst hs
              refine ⟨rfl, ?_⟩
              obtain ⟨p, hp, hB2, hblk, hr⟩ := hI
              rw [hr] at e12
              obtain ⟨t0, t1, t2, t3, t4, t5, _⟩ := hblk.sixp
              have fr := hblk.free
              refine oper_wp_skip (w' := (((((w'.setCell ⟨p, 0, none⟩ (.int .i64 sq)).setCell ⟨p, 1, none⟩ (.int .i64 T)).setCell ⟨p, 2, none⟩ (.bool false)).setCell ⟨p, 3, none⟩ (.bool false)).setCell ⟨p, 4, none⟩ (.bool false)).setCell ⟨p, 5, none⟩ (.string x)) ?_ ⟨_, rfl, p, hp, ?_, ?_, by rw [updR_ne (by omega)]; exact hr⟩
              · generalize a'.eval = ρ at *
                simp [execOp, go_sem, e12, e75, t0, t1, t2, t3, t4, t5, fr]
              · exact (((((hB2.setCell hp _).setCell hp _).setCell hp _).setCell hp _).setCell hp _).setCell hp _
              · exact (((((hblk.set 0 (.int .i64 sq)).set 1 (.int .i64 T)).set 2 (.bool false)).set 3 (.bool false)).set 4 (.bool false)).set 5 (.string x)
          case fin =>
            rintro r w7 ⟨p, hp, hB7, hP7, hr⟩
            simp only [putC, Ck.out, hr, Act.put, List.setIfInBounds_toArray, List.set_cons_succ, List.set_cons_zero]
            by_cases hz : k = 0
            · have hz' : ((k : Int) == 0) = true := by simp; omega
              have hkz : (k == 0) = true := by simpa using hz
              go_wp2_with fail
              refine region_chainG (by kernel_rfl) (by kernel_rfl) [.quiet (.pointer (some ⟨w.heap.size + 1, 1, none⟩)) 2, .quiet (.bool fk) 2, .quiet (.pointer (some ⟨p, 2, none⟩)) 2, .step 0, .quiet (.pointer (some ⟨p, 4, none⟩)) 2, .step 1] [3, 5] (by kernel_rfl)
                (fun s r w' => match s with
                  | 0 => Below wr.heap.size wr w' ∧ Blk w' p #[.int .i64 sq, .int .i64 T, .bool false, .bool false, .bool false, .string x] 38
                  | 1 => Below wr.heap.size wr w' ∧ Blk w' p #[.int .i64 sq, .int .i64 T, .bool true, .bool false, .bool false, .string x] 38
                  | _ => Below wr.heap.size wr w' ∧ Blk w' p #[.int .i64 sq, .int .i64 T, .bool true, .bool false, .bool fk, .string x] 38
                  ) (⟨hB7.drew, hP7.drew⟩) ?step ?fin
              case step =>
                intro i o ho a' w' s r hI hfree hvals
                have hB : Below wr.heap.size wr w' := by
                  match s, hI with
                  | 0, hI => exact hI.1
                  | 1, hI => exact hI.1
                  | n + 2, hI => exact hI.1
                have y1 := (hB.cell (p := ⟨w.heap.size + 1, 1, none⟩) li).trans i1
                match i, ho with
                | 0, ho =>
                  simp at ho; subst ho
                  have e4 : a'.eval (.tmp 4) = .pointer (some ⟨w.heap.size + 1, 0, none⟩) := (hfree 4 (by kernel_rfl)).trans rfl
                  show s ≤ 2 → _
                  intro hs
                  refine .inl ⟨rfl, ?_⟩
                  generalize a'.eval = ρ at *
                  simp [execOp, go_sem, e4]
                | 1, ho =>
                  simp at ho; subst ho
                  have e78 : a'.eval (.tmp 78) = .pointer (some ⟨w.heap.size + 1, 1, none⟩) := hvals 0 _ _ (by kernel_rfl) rfl rfl
                  show s ≤ 2 → _
                  intro hs
                  refine .inl ⟨rfl, ?_⟩
                  generalize a'.eval = ρ at *
                  simp [execOp, go_sem, e78, y1]
                | 2, ho =>
                  simp at ho; subst ho
                  have e12 : a'.eval (.tmp 12) = .pointer (some ⟨p, 0, none⟩) := (hfree 12 (by kernel_rfl)).trans rfl
                  show s ≤ 2 → _
                  intro hs
                  refine .inl ⟨rfl, ?_⟩
                  generalize a'.eval = ρ at *
                  simp [execOp, go_sem, e12]
                | 3, ho =>
                  simp at ho; subst ho
                  have e80 : a'.eval (.tmp 80) = .pointer (some ⟨p, 2, none⟩) := hvals 2 _ _ (by kernel_rfl) rfl rfl
                  show s = 0 → _ ∧ Oper.wp _ _ _ _ _ _
                  intro hs
                  subst hs
                  refine ⟨rfl, ?_⟩
                  obtain ⟨hB2, hblk⟩ := hI
                  obtain ⟨t0, t1, t2, t3, t4, t5, _⟩ := hblk.sixp
                  have fr := hblk.free
                  have ec : a'.eval (.const (.bool true)) = .bool true := rfl
                  refine oper_wp_skip (w' := w'.setCell ⟨p, 2, none⟩ (.bool true)) ?_ ⟨_, rfl, hB2.setCell hp _, hblk.set 2 (.bool true)⟩
                  generalize a'.eval = ρ at *
                  simp [execOp, go_sem, e80, ec, t2, fr]
                | 4, ho =>
                  simp at ho; subst ho
                  have e12 : a'.eval (.tmp 12) = .pointer (some ⟨p, 0, none⟩) := (hfree 12 (by kernel_rfl)).trans rfl
                  show s ≤ 2 → _
                  intro hs
                  refine .inl ⟨rfl, ?_⟩
                  generalize a'.eval = ρ at *
                  simp [execOp, go_sem, e12]
                | 5, ho =>
                  simp at ho; subst ho
                  have e81 : a'.eval (.tmp 81) = .pointer (some ⟨p, 4, none⟩) := hvals 4 _ _ (by kernel_rfl) rfl rfl
                  have e79 : a'.eval (.tmp 79) = .bool fk := hvals 1 _ _ (by kernel_rfl) rfl rfl
                  show s = 1 → _ ∧ Oper.wp _ _ _ _ _ _
                  intro hs
                  subst hs
                  refine ⟨rfl, ?_⟩
                  obtain ⟨hB2, hblk⟩ := hI
                  obtain ⟨t0, t1, t2, t3, t4, t5, _⟩ := hblk.sixp
                  have fr := hblk.free
                  refine oper_wp_skip (w' := w'.setCell ⟨p, 4, none⟩ (.bool fk)) ?_ ⟨_, rfl, hB2.setCell hp _, hblk.set 4 (.bool fk)⟩
                  generalize a'.eval = ρ at *
                  simp [execOp, go_sem, e81, e79, t4, fr]
              case fin =>
                rintro r W8 ⟨hB8, hP8⟩
                simp only [putC, Ck.out, Act.put, List.setIfInBounds_toArray, List.set_cons_succ, List.set_cons_zero]
                have q2 := (hB8.cell (p := ⟨w.heap.size + 1, 2, none⟩) li).trans i2
                by_cases hen : k = n - 1
                · have hen' : ((k : Int) == (n : Int) - 1) = true := by simp; omega
                  have hke : (k == n - 1) = true := by simpa using hen
                  obtain ⟨W9, hW9⟩ : ∃ V, V = W8.setCell ⟨p, 3, none⟩ (.bool true) := ⟨_, rfl⟩
                  have hB9 : Below wr.heap.size wr W9 := by rw [hW9]; exact hB8.setCell hp _
                  have hP9 : Blk W9 p #[.int .i64 sq, .int .i64 T, .bool true, .bool true, .bool fk, .string x] 38 := by rw [hW9]; exact hP8.set 3 (.bool true)
                  obtain ⟨n0, n1', n2, n3, n4, n5, _⟩ := hP8.sixp
                  have fr := hP8.free 3
                  obtain ⟨m0, m1, m2, m3, m4, m5, _⟩ := hP9.sixp
                  obtain ⟨v', w9, r9, o9, g9⟩ := pk_snoc (base := W3.heap.size) ⟨sq, T, true, true, fk, x⟩ (owns_below HO'.out hB9 (Nat.le_refl _)) (by omega) (by have := hB9.size; have := HB'.out.size; omega)
                  have B9 : Hid (Below W3.heap.size W3 w9) := ((HB'.out.trans (hB9.mono HB'.out.size)).alloc (by have := hB9.size; have := HB'.out.size; omega) _).grown g9 (by simp; have := hB9.size; have := HB'.out.size; omega) (fun j hj => (HO'.out.lt j hj).1)
                  have O9 : Hid (w9.ownsRow W3.heap.size 38 6 v' (k + 1) (pkCells (pksK l T fk ps (k + 1)))) := by
                    rw [pksK_succ, show pkAt l T fk ps k = ⟨sq, T, true, true, fk, x⟩ by
                      unfold pkAt; rw [← HXX.out.1, ← HXX.out.2, ← HN.out, hkz, hke]; rfl]
                    exact o9
                  simp only [Pk.cells] at r9
                  clear o9 g9 hP9 HO' HB'
                  go_upto_region 19 with fail
                  rw [← hW9]
                  clear hW9
                  go_wp2_with (at_builtin; refine wpList_append_run rfl (.tmp 89) (.tmp 91) 27 27 rfl _ _ rfl rfl r9 ?_)
                  go_roundw
                  case rel => exact ⟨k + 1, by omega, by go_num, O9.out, B9.out⟩
                  case measure => simp [intOf]; omega
                · have hen' : ((k : Int) == (n : Int) - 1) = false := by simp; omega
                  have hke : (k == n - 1) = false := by simpa using hen
                  have hB9 := hB8
                  have hP9 := hP8
                  obtain ⟨m0, m1, m2, m3, m4, m5, _⟩ := hP9.sixp
                  obtain ⟨v', w9, r9, o9, g9⟩ := pk_snoc (base := W3.heap.size) ⟨sq, T, true, false, fk, x⟩ (owns_below HO'.out hB9 (Nat.le_refl _)) (by omega) (by have := hB9.size; have := HB'.out.size; omega)
                  have B9 : Hid (Below W3.heap.size W3 w9) := ((HB'.out.trans (hB9.mono HB'.out.size)).alloc (by have := hB9.size; have := HB'.out.size; omega) _).grown g9 (by simp; have := hB9.size; have := HB'.out.size; omega) (fun j hj => (HO'.out.lt j hj).1)
                  have O9 : Hid (w9.ownsRow W3.heap.size 38 6 v' (k + 1) (pkCells (pksK l T fk ps (k + 1)))) := by
                    rw [pksK_succ, show pkAt l T fk ps k = ⟨sq, T, true, false, fk, x⟩ by
                      unfold pkAt; rw [← HXX.out.1, ← HXX.out.2, ← HN.out, hkz, hke]; rfl]
                    exact o9
                  simp only [Pk.cells] at r9
                  clear o9 g9 hP9 HO' HB'
                  go_upto_region 19 with fail
                  go_wp2_with (at_builtin; refine wpList_append_run rfl (.tmp 89) (.tmp 91) 27 27 rfl _ _ rfl rfl r9 ?_)
                  go_roundw
                  case rel => exact ⟨k + 1, by omega, by go_num, O9.out, B9.out⟩
                  case measure => simp [intOf]; omega
            · have hz' : ((k : Int) == 0) = false := by simp; omega
              have hkz : (k == 0) = false := by simpa using hz
              have hB8 := hB7
              have hP8 := hP7
              have q2 := (hB8.cell (p := ⟨w.heap.size + 1, 2, none⟩) li).trans i2
              by_cases hen : k = n - 1
              · have hen' : ((k : Int) == (n : Int) - 1) = true := by simp; omega
                have hke : (k == n - 1) = true := by simpa using hen
                obtain ⟨W9, hW9⟩ : ∃ V, V = w7.setCell ⟨p, 3, none⟩ (.bool true) := ⟨_, rfl⟩
                have hB9 : Below wr.heap.size wr W9 := by rw [hW9]; exact hB8.setCell hp _
                have hP9 : Blk W9 p #[.int .i64 sq, .int .i64 T, .bool false, .bool true, .bool false, .string x] 38 := by rw [hW9]; exact hP8.set 3 (.bool true)
                obtain ⟨n0, n1', n2, n3, n4, n5, _⟩ := hP8.sixp
                have fr := hP8.free 3
                obtain ⟨m0, m1, m2, m3, m4, m5, _⟩ := hP9.sixp
                obtain ⟨v', w9, r9, o9, g9⟩ := pk_snoc (base := W3.heap.size) ⟨sq, T, false, true, false, x⟩ (owns_below HO'.out hB9 (Nat.le_refl _)) (by omega) (by have := hB9.size; have := HB'.out.size; omega)
                have B9 : Hid (Below W3.heap.size W3 w9) := ((HB'.out.trans (hB9.mono HB'.out.size)).alloc (by have := hB9.size; have := HB'.out.size; omega) _).grown g9 (by simp; have := hB9.size; have := HB'.out.size; omega) (fun j hj => (HO'.out.lt j hj).1)
                have O9 : Hid (w9.ownsRow W3.heap.size 38 6 v' (k + 1) (pkCells (pksK l T fk ps (k + 1)))) := by
                  rw [pksK_succ, show pkAt l T fk ps k = ⟨sq, T, false, true, false, x⟩ by
                    unfold pkAt; rw [← HXX.out.1, ← HXX.out.2, ← HN.out, hkz, hke]; rfl]
                  exact o9
                simp only [Pk.cells] at r9
                clear o9 g9 hP9 HO' HB'
                go_upto_region 19 with fail
                rw [← hW9]
                clear hW9
                go_wp2_with (at_builtin; refine wpList_append_run rfl (.tmp 89) (.tmp 91) 27 27 rfl _ _ rfl rfl r9 ?_)
                go_roundw
                case rel => exact ⟨k + 1, by omega, by go_num, O9.out, B9.out⟩
                case measure => simp [intOf]; omega
              · have hen' : ((k : Int) == (n : Int) - 1) = false := by simp; omega
                have hke : (k == n - 1) = false := by simpa using hen
                have hB9 := hB8
                have hP9 := hP8
                obtain ⟨m0, m1, m2, m3, m4, m5, _⟩ := hP9.sixp
                obtain ⟨v', w9, r9, o9, g9⟩ := pk_snoc (base := W3.heap.size) ⟨sq, T, false, false, false, x⟩ (owns_below HO'.out hB9 (Nat.le_refl _)) (by omega) (by have := hB9.size; have := HB'.out.size; omega)
                have B9 : Hid (Below W3.heap.size W3 w9) := ((HB'.out.trans (hB9.mono HB'.out.size)).alloc (by have := hB9.size; have := HB'.out.size; omega) _).grown g9 (by simp; have := hB9.size; have := HB'.out.size; omega) (fun j hj => (HO'.out.lt j hj).1)
                have O9 : Hid (w9.ownsRow W3.heap.size 38 6 v' (k + 1) (pkCells (pksK l T fk ps (k + 1)))) := by
                  rw [pksK_succ, show pkAt l T fk ps k = ⟨sq, T, false, false, false, x⟩ by
                    unfold pkAt; rw [← HXX.out.1, ← HXX.out.2, ← HN.out, hkz, hke]; rfl]
                  exact o9
                simp only [Pk.cells] at r9
                clear o9 g9 hP9 HO' HB'
                go_upto_region 19 with fail
                go_wp2_with (at_builtin; refine wpList_append_run rfl (.tmp 89) (.tmp 91) 27 27 rfl _ _ rfl rfl r9 ?_)
                go_roundw
                case rel => exact ⟨k + 1, by omega, by go_num, O9.out, B9.out⟩
                case measure => simp [intOf]; omega
        · have hkn : k = n := by omega
          subst hkn
          have HRr : Hid (Blk wr R #[.int .i64 0, .int .i64 0, .int .i64 0] 23) := HR4.out.below HB'.out HR4.out.lt
          obtain ⟨V, hV⟩ : ∃ V, V = ((wr.setCell ⟨R, 0, none⟩ (.int .i64 (l + k))).setCell ⟨R, 1, none⟩ (.int .i64 T)).setCell ⟨R, 2, none⟩ (.int .i64 S) := ⟨_, rfl⟩
          have hVB : Blk V R #[.int .i64 (l + k), .int .i64 T, .int .i64 S] 23 := by rw [hV]; exact HRr.out.put3 _ _ _
          have hVW : Below w.heap.size w V := (StayK.goK HTr (by rw [hV]; exact (Kept.refl [X, R] _).put3 (b := R) (by simp) _ _ _)).out.now.2.2.2
          have hlR := HR4.out.lt
          have hVR : V.ownsRow W3.heap.size 38 6 u10 k (pkCells (pksK l T fk ps k)) := by
            rw [hV]; exact ownsRow_setCell_below (ownsRow_setCell_below (ownsRow_setCell_below HO'.out hlR _) hlR _) hlR _
          obtain ⟨va, vc, ev⟩ := owns_slice6 hVR
          subst ev
          obtain ⟨z0, z1, z2⟩ := HRr.out.three
          have f0 := HRr.out.free 0
          have f1 := HRr.out.free 1
          have f2 := HRr.out.free 2
          have HPP : Hid (P.length = k ∧ P = pksK l T fk ps k) := by
            have h2 := HOP.out.2.1
            rw [pksOf, ← HN.out] at h2
            exact ⟨by rw [h2, pksK_len], h2⟩
          clear hlR HRr HTr HXr HO' HB'
          go_wp2_with fail
          rw [← hV]
          obtain ⟨r0, r1, r2⟩ := hVB.three
          have hfin : V.ownsRow w.heap.size 38 6 (.slice va k vc) k (pkCells (pksK l T fk ps k)) := owns_le hVR (by have := HX3.out.lt; have := HRX.out; omega)
          rw [HOP.out.1, HOP.out.2.2, HPP.out.1, HPP.out.2]
          exact bodyPost_ret (v := .tuple #[.agg #[.int .i64 (l + k), .int .i64 T, .int .i64 S], .slice va k vc, .int .i64 0]) (by simp [results, Try.results10, go_sem, r0, r1, r2]) rfl ⟨va, vc, rfl, hfin, hVW⟩

end Go.Proofs.Ytnpaejknoipicaf
